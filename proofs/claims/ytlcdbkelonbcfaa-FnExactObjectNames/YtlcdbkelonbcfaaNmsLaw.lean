/-
  laws.FnExactObjectNames answers true at every array, and leaves what was there as it was. No condition.
-/
import Derived.Test.YtlcdbkelonbcfaaNamI
import Derived.Test.YtlcdbkelonbcfaaMkS
import Derived.Test.YtlcdbkelonbcfaaArLaw
namespace Go.Proofs.Ytlcdbkelonbcfaa.nms
open Go.RowKit Go.Joins
open Go.Proofs.Ytlcdbkelonbcfaa.base Go.Proofs.Ytlcdbkelonbcfaa.blk Go.Proofs.Ytlcdbkelonbcfaa.aid
open Go.Proofs.Ytlcdbkelonbcfaa.row (Rd Own OwnV)
open Go.Proofs.Ytlcdbkelonbcfaa.rwStored (cs)
open Go.Proofs.Ytlcdbkelonbcfaa.strs (tx from_)
open Go.Proofs.Ytlcdbkelonbcfaa.mem (Mem Mine Off)
open Go.Proofs.Ytlcdbkelonbcfaa.drv (NPost)
open Go.Proofs.Ytlcdbkelonbcfaa.arr
set_option linter.unusedVariables false
set_option linter.unusedSimpArgs false

theorem some_val : ∀ (a b : List Dv), a.map val = b.map val → some_ a = some_ b
  | [], [], _ => rfl
  | [], y :: b, h => by simp at h
  | x :: a, [], h => by simp at h
  | x :: a, y :: b, h => by
    simp [val] at h
    unfold some_
    rw [some_val a b h.2, h.1.1]
theorem allF_len : ∀ (l : List Fl) (acc : List ByteArray), (allF acc l).length ≤ acc.length + l.length
  | [], acc => by simp [allF]
  | f :: l, acc => by
    have h := allF_len l (step acc f)
    have h2 := step_len acc f
    show (allF (step acc f) l).length ≤ _
    simp only [List.length_cons]
    omega
theorem allV_len (ds : List Dv) : ((allV (ds.map val)).length : Int) ≤ some_ ds := by
  have h : ∀ (ds : List Dv) (acc : List ByteArray), (((ds.map val).foldl (fun acc v => allF acc v.1) acc).length : Int) ≤ acc.length + some_ ds := by
    intro ds
    induction ds with
    | nil => intro acc; simp [some_]
    | cons d ds ih =>
      intro acc
      have h1 := ih (allF acc d.2.2.1)
      have h2 := allF_len d.2.2.1 acc
      show (((ds.map val).foldl (fun acc v => allF acc v.1) (allF acc d.2.2.1)).length : Int) ≤ _
      unfold some_
      omega
  simpa [allV] using h ds []
theorem names_len (k m : Int) (ds : List Dv) : ((namesA k m (ds.map val)).length : Int) ≤ some_ ds := by
  unfold namesA
  split
  · exact allV_len ds
  · have := some_pos ds; simpa using this
/-- rows of our own of a later world beside what holds -/
theorem join {W w4 w5 : World} {bs : List (Nat × Obj)} {rs : List (Option Addr × List Value)} {os : List Mine} (h : Mem W bs rs [] w4) (h2 : Mem w4 [] [] os w5) : Mem W bs rs os w5 := by
  refine ⟨h.below.trans (h2.below.mono h.below.size), fun p hp => blk_below (h.b p hp) h2.below, fun p hp => (h.r p hp).below h2.below, h2.o, ?_, h2.apart⟩
  intro p hp hx g o s e
  have hg := (h2.new p hp hx g o s e).1
  refine ⟨Nat.le_trans h.below.size hg, fun q hq e2 => ?_, fun q hq => ?_⟩
  · have := (Array.getElem?_eq_some_iff.1 (h.b q hq)).1
    omega
  · by_cases hq0 : q.2 = []
    · exact .inl hq0
    · refine .inr (fun o2 s2 e2 => ?_)
      have := mem.rd_lt (h.r q hq) hq0 g o2 s2 e2
      omega
theorem rdX {W wx : World} {bs : List (Nat × Obj)} {rs : List (Option Addr × List Value)} {a : Option Addr} {ds' : List Dv} (h : Mem W bs rs (⟨92, a, dcs ds'⟩ :: mines ds'.reverse) wx) : RdA wx a ds' := by
  have h2 : Mem W bs rs (⟨92, a, dcs ds'⟩ :: (mines ds'.reverse ++ [])) wx := by rw [List.append_nil]; exact h
  exact rdA_of h2 (fun d hd => List.mem_reverse.2 hd)
theorem mines_perm (g D : Mine) (ds : List Dv) : (g :: D :: mines ds.reverse).Perm (D :: (mines ds ++ [g])) := by
  have h1 : (mines ds.reverse).Perm (mines ds) := (List.reverse_perm ds).map _
  exact (List.Perm.swap D g _).trans (List.Perm.cons D (((List.Perm.cons g h1)).trans (List.perm_append_singleton g _).symm))
set_option maxRecDepth 100000 in
set_option maxHeartbeats 4000000 in
theorem names_walk (k m : Int) (a : Option Addr) (c : Nat) (ds : List Dv) (w : World) (hl : (ds.length : Int) ≤ 9223372036854775807) (hs : Big ds) (hr : RdA w a ds) :
    Calls Try.prog 3 #[.agg #[.int .i64 k, .int .i64 m, .slice a ds.length c]] w fun e w' => e = .returned (.bool true) ∧ Below w.heap.size w w' := by
  have HZ := mkHid (szA_any k m a c ds (w.alloc (.cells #[.int .i64 k, .int .i64 m, .slice a ds.length c] 24)) hl hs (hr.alloc _))
  have S0 := mkHid ((mem.start w).var (.cells #[.int .i64 k, .int .i64 m, .slice a ds.length c] 24))
  have HR := mkHid hr
  clear hr hs hl
  obtain ⟨c0, c1, c2⟩ := cel3 S0.out.b0
  go_enter Try.func3, Try.ntmps3
  go_wp2_with fail
  refine HZ.out.mono ?_
  rintro e w1 ⟨⟨z, rfl, hL⟩, hb1⟩
  have S1 := mkHid (S0.out.next hb1)
  by_cases hz : z < 0
  · clear hb1 HZ hL S0 c0 c1 c2
    go_wp2
    go_ret
    exact ⟨rfl, S1.out.below⟩
  have hz0 : 0 ≤ z := by omega
  obtain ⟨hz1, hfit⟩ : (z + (ds.length + some_ ds) ≤ 1048576) ∧ FitA ds := by
    rcases hL with h | ⟨_, h2, h3⟩
    · exact absurd h (by omega)
    · exact ⟨h2, h3⟩
  have hp := some_pos ds
  have hl1 : ds.length ≤ 1048576 := by omega
  have hl2 : ∀ d ∈ ds, d.2.2.1.length ≤ 1048576 := fun d hd => by have := some_le ds d hd; omega
  have HT := mkHid (fun wx (hx : RdA wx a ds) => toA_any k m a c ds wx hl1 hl2 hx)
  unfold APost at HT
  have HS := mkHid (fun wx a' c' ds' n (hn : ds'.length = n) (hv : ds'.map val = ds.map val) (hx : RdA wx a' ds') => by
    have h := objNamesS_any k m a' c' ds' wx (by rw [val_len hv]; exact hl1) (by rw [some_val _ _ hv]; omega) (val_sizes (P := fun l _ => l.length ≤ 1048576) hv hl2) (val_sizes (P := fun l _ => Fit l) hv hfit) hx
    rw [hv, hn] at h
    exact h)
  have HI := mkHid (fun wx a' c' ds' n (hn : ds'.length = n) (hv : ds'.map val = ds.map val) (hx : RdA wx a' ds') => by
    have h := objNamesI_any k m a' c' ds' wx (by rw [val_len hv]; exact hl1) (by rw [some_val _ _ hv]; omega) (val_sizes (P := fun l _ => l.length ≤ 1048576) hv hl2) (val_sizes (P := fun l _ => Fit l) hv hfit) hx
    rw [hv, hn] at h
    exact h)
  unfold QPost at HS
  unfold NPost at HI
  have HEA := mkHid (fun wx a1 c1 a2 c2 d1 d2 n (hn : d1.length = n) (hn2 : n = ds.length) (h1 : d1.map val = ds.map val) (h2 : d2.map val = ds.map val) (x1 : RdA wx a1 d1) (x2 : RdA wx a2 d2) => eqA_same k m a1 a2 c1 c2 d1 d2 wx n hn (h2.trans h1.symm) (by omega) (val_sizes (P := fun l _ => l.length ≤ 1048576) h1 hl2) x1 x2)
  have HLen := mkHid (fun (d1 : List Dv) (h : d1.map val = ds.map val) => val_len h)
  have HMX := mkHid (fun wx W bs rs os G c d4 (h : d4.map val = ds.map val) hM => mkA_any W bs rs os k m G c d4 ds.length (val_len h) wx (by rw [some_val _ _ h, val_len h]; omega) hM)
  have htl := names_len k m ds
  generalize namesA k m (ds.map val) = ts at *
  have htn : ts.length ≤ 1048576 := by omega
  have HE := mkHid (fun wx a1 c1 a2 c2 (h1 : Rd wx a1 (tx ts)) (h2 : Rd wx a2 (tx ts)) => strs.eqX_same a1 a2 c1 c2 ts wx htn h1 h2)
  have HMG := mkHid (fun wx a1 c1 (h : OwnV 9 wx a1 (tx ts)) => strs.markX_any a1 c1 ts 1 wx htn (by omega) h)
  have HHG := mkHid (fun wx a1 c1 (h : Rd wx a1 (tx (from_ 1 ts.length))) => strs.heldX_any a1 c1 ts.length 1 wx htn (by omega) h)
  have QG : Hid (tx (from_ 1 ts.length) ≠ [] → tx ts ≠ []) := mkHid (strs.from_ne rfl)
  have hti : (ts.length : Int) ≤ 1048576 := by omega
  have hk8 : 0 ≤ 1 + (ts.length : Int) := by omega
  have hk9 : (1 + (ts.length : Int) != 1 + (ts.length : Int)) = false := by simp
  clear hb1 HZ hL S0 c0 c1 c2 hfit hl2 hz1 hp hl1 htl htn
  obtain ⟨c0, c1, c2⟩ := cel3 S1.out.b0
  go_wp2_with fail
  refine (HT.out _ (HR.out.below S1.out.below)).mono ?_
  rintro e w2 ⟨G2, d2, rfl, hv2, hM2⟩
  have S2 := mkHid (And.intro (S1.out.next hM2.below) (rdA_mem hM2))
  have V2 := mkHid hv2
  clear hM2 hv2 S1 c0 c1 c2
  go_wp2_with fail
  refine (HS.out _ _ _ d2 _ (HLen.out d2 V2.out) V2.out S2.out.2).mono ?_
  rintro e w3 ⟨a3, c3, rfl, hr3, hf3, hb3⟩
  have S3 := mkHid (S2.out.1.row hb3 hr3 hf3)
  clear hb3 S2 V2 HS hr3 hf3
  obtain ⟨c0, c1, c2⟩ := cel3 S3.out.b0
  go_wp2_with fail
  refine (HT.out _ (HR.out.below S3.out.below)).mono ?_
  rintro e w4 ⟨G4, d4, rfl, hv4, hM4⟩
  have S4 := mkHid ((join S3.out hM4).var (.cells #[.int .i64 k, .int .i64 m, .slice (some ⟨G4, 0, none⟩) ds.length ds.length] 30))
  have V4 := mkHid hv4
  clear hM4 hv4 S3 c0 c1 c2
  obtain ⟨c0, c1, c2⟩ := cel3 S4.out.b0
  go_wp2_with fail
  refine (HI.out _ _ _ d4 _ (HLen.out d4 V4.out) V4.out (rdX S4.out)).mono ?_
  rintro e w5 ⟨a5, c5, rfl, ho5, hf5, hb5⟩
  have S5 := mkHid (S4.out.own hb5 ho5 hf5)
  clear hb5 S4 ho5 hf5 c0 c1 c2
  go_wp2_with fail
  refine (HE.out _ _ _ _ _ S5.out.o0.rd S5.out.r0).mono ?_
  rintro e w6 ⟨rfl, hb6⟩
  have S6 := mkHid (S5.out.next hb6)
  clear hb6 S5
  obtain ⟨c0, c1, c2⟩ := cel3 S6.out.b0
  obtain ⟨d0, d1, d2'⟩ := cel3 S6.out.b1
  go_wp2_with fail
  go_region_held3 (fun w' => w'.cell? ⟨w4.heap.size, 0, none⟩ = some (.int .i64 k) ∧ w'.cell? ⟨w4.heap.size, 1, none⟩ = some (.int .i64 m) ∧ w'.cell? ⟨w4.heap.size, 2, none⟩ = some (.slice (some ⟨G4, 0, none⟩) ds.length ds.length) ∧ w'.cell? ⟨w.heap.size, 0, none⟩ = some (.int .i64 k) ∧ w'.cell? ⟨w.heap.size, 1, none⟩ = some (.int .i64 m) ∧ w'.cell? ⟨w.heap.size, 2, none⟩ = some (.slice a ds.length c)) (go_keep)
    ((first
      | (go_at_call 10; refine Calls.mono (HT.out _ (by first | exact HR.out.below S6.out.below | exact (HR.out.below S6.out.below).drew)) ?_; rintro e w7 ⟨G7, d7, rfl, hv7, hM7⟩; have r7 := re (w := w6) hM7.below rfl rfl rfl rfl; have S7 := mkHid (And.intro (S6.out.next r7) (rdA_mem hM7)); have V7 := mkHid hv7; obtain ⟨e0, e1, e2⟩ := cel3 S7.out.1.b0; obtain ⟨f0, f1, f2⟩ := cel3 S7.out.1.b1; clear hM7 r7 hv7)
      | (go_at_call 13; refine Calls.mono (HEA.out _ _ _ _ _ d4 d7 _ (HLen.out d4 V4.out) rfl V4.out V7.out (by first | exact rdX S7.out.1.lessO | exact (rdX S7.out.1.lessO).drew) (by first | exact S7.out.2 | exact S7.out.2.drew)) ?_; rintro e w8 ⟨rfl, hb8⟩; have r8 := re (w := w7) hb8 rfl rfl rfl rfl; have S8 := mkHid (S7.out.1.next r8); obtain ⟨g0, g1, g2⟩ := cel3 S8.out.b0; obtain ⟨h0, h1, h2⟩ := cel3 S8.out.b1; clear hb8 r8)))
  clear c0 c1 c2 d0 d1 d2' e0 e1 e2 f0 f1 f2 g0 g1 g2 h0 h1 h2
  clear S6 S7
  have Sm := mkHid (memPerm S8.out (mines_perm _ _ _))
  clear S8
  obtain ⟨c0, c1, c2⟩ := cel3 Sm.out.b0
  go_wp2_with fail
  refine (HMX.out _ _ _ _ _ _ _ d4 V4.out (by first | exact Sm.out | exact Sm.out.drew)).mono ?_
  rintro e w9 ⟨⟨z9, rfl, hz9⟩, hM9⟩
  have S9 := mkHid hM9
  clear c0 c1 c2 hM9 Sm HMX
  go_wp2_with fail
  refine (HE.out _ _ _ _ _ S9.out.o0.rd S9.out.r0).mono ?_
  rintro e w10 ⟨rfl, hb10⟩
  have S10 := mkHid (S9.out.next hb10)
  clear hb10 S9
  go_wp2_with fail
  refine (HMG.out _ _ _ S10.out.o0).mono ?_
  rintro e w11 ⟨rfl, ho11, q11, hg11, hq11⟩
  have S11 := mkHid (S10.out.mark hg11 hq11 ho11 QG.out)
  clear ho11 hg11 hq11 S10
  go_wp2_with fail
  refine (HHG.out _ _ _ S11.out.o0.rd).mono ?_
  rintro e w12 ⟨rfl, hb12⟩
  have S12 := mkHid (S11.out.next hb12)
  clear hb12 S11
  obtain ⟨c0, c1, c2⟩ := cel3 S12.out.b1
  go_wp2_with fail
  refine (HT.out _ (HR.out.below S12.out.below)).mono ?_
  rintro e w13 ⟨G13, d13, rfl, hv13, hM13⟩
  have S13 := mkHid (And.intro (S12.out.next hM13.below) (rdA_mem hM13))
  have V13 := mkHid hv13
  clear hM13 hv13 S12 c0 c1 c2
  go_wp2_with fail
  refine (HI.out _ _ _ d13 _ (HLen.out d13 V13.out) V13.out S13.out.2).mono ?_
  rintro e w14 ⟨a14, c14, rfl, ho14, hf14, hb14⟩
  have S14 := mkHid (S13.out.1.row hb14 ho14.rd hf14)
  clear hb14 S13 HI ho14 hf14
  go_wp2_with fail
  refine (HE.out _ _ _ _ _ S14.out.r0 S14.out.r1).mono ?_
  rintro e w15 ⟨rfl, hb15⟩
  have S15 := mkHid (S14.out.next hb15)
  clear hb15 S14
  go_wp2_with fail
  refine (HHG.out _ _ _ S15.out.o0.rd).mono ?_
  rintro e w16 ⟨rfl, hb16⟩
  have S16 := mkHid (S15.out.next hb16)
  clear hb16 S15
  go_wp2
  go_ret
  exact ⟨rfl, S16.out.below⟩
end Go.Proofs.Ytlcdbkelonbcfaa.nms
