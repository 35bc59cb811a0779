/-
  What spec.l08Do answers and leaves where the op is a rename, and what spec.DriveDo answers and leaves. Conditions: at most 1,048,576 files, which lie in memory, of texts of at most 1,048,576 bytes, in a slice that holds them; the op's texts have at most 1,048,576 bytes.
-/
import Derived.Test.YtfckgpmphcadeaaDrvDn
namespace Go.Proofs.Ytfckgpmphcadeaa.drv
open Go.RowKit Go.Joins Go.Sort
open Go.Proofs.Ytfckgpmphcadeaa.base Go.Proofs.Ytfckgpmphcadeaa.blk Go.Proofs.Ytfckgpmphcadeaa.aid
open Go.Proofs.Ytfckgpmphcadeaa.row (Rd Own OwnV)
open Go.Proofs.Ytfckgpmphcadeaa.rwStored (cs)
set_option linter.unusedVariables false

set_option maxRecDepth 100000 in
set_option maxHeartbeats 4000000 in
theorem doS_same (a : Option Addr) (c : Nat) (l : List File) (r : Int) (n t x : ByteArray) (w : World) (hl : l.length ≤ 1048576) (hc : l.length ≤ c) (i : Nat) (f : File) (hf : l[i]? = some f) (hk : find l n = (i : Int)) (hn : t = n) (hr : Rd w a (cs l)) :
    Calls Try.prog 59 #[.agg #[.slice a l.length c, .int .i64 r], .agg #[.int .i64 3, .string n, .string t, .string x]] w (OPost w l r 0) := by
  subst hn
  have S0 := mkHid (((((mem.startR hr).var (.cells #[.slice a l.length c, .int .i64 r] 25)).var (.cells #[.int .i64 3, .string t, .string t, .string x] 27)).var (.cells #[.slice none 0 0, .int .i64 0, .int .i64 0] 31)))
  have hz : (w.alloc (.cells #[.slice a l.length c, .int .i64 r] 25)).heap.size = w.heap.size + 1 := by simp
  have hz2 : ((w.alloc (.cells #[.slice a l.length c, .int .i64 r] 25)).alloc (.cells #[.int .i64 3, .string t, .string t, .string x] 27)).heap.size = w.heap.size + 1 + 1 := by simp
  rw [hz, hz2] at S0
  have HF := mkHid (find_any a c l r t _ hl S0.out.r0)
  rw [hk] at HF
  have HC := mkHid (fun wx (hx : Rd wx a (cs l)) => copyS_any a c l r wx hl hx)
  unfold CPost at HC
  have hkl : i < l.length := (List.getElem?_eq_some_iff.1 hf).1
  have hkl2 : (i : Int) < (l.length : Int) := by omega
  have hki : ¬ (i : Int) < 0 := by omega
  have HR := mkHid hr
  clear hr hk
  go_enter Try.func59, Try.ntmps59
  go_wp2_with fail
  refine HF.out.mono ?_
  rintro e w1 ⟨rfl, hb1⟩
  have S1 := mkHid (S0.out.next hb1)
  obtain ⟨e0, e1, e2⟩ := cel3 S1.out.b0
  have ef : ∀ j, w1.frozen? ⟨w.heap.size + 1 + 1, j, none⟩ = false := unfrozen S1.out.b0
  obtain ⟨f0, f1, f2, f3⟩ := cel4 S1.out.b1
  obtain ⟨d0, d1⟩ := cel2 S1.out.b2
  clear hb1 HF S0
  obtain ⟨x0, x1, x2⟩ := f
  obtain ⟨ga, oa, rfl, u0, u1, u2, l1⟩ := rwStored.el S1.out.r0 hf
  simp only at u0 u1 u2
  have S2 := mkHid (S1.out.var (.cells #[.string x0, .string x1, .int .i64 x2] 39))
  obtain ⟨d0', d1'⟩ := cel2 S2.out.b3
  go_wp2_with fail
  refine (HC.out _ S2.out.r0).mono ?_
  rintro e w2 ⟨v, rfl, hown, hb2⟩
  obtain ⟨va, vc, rfl, ho, hfr⟩ := mem.own_of hown
  have hcap : l.length ≤ vc := own_cap hown
  have S3 := mkHid ((S2.out.own hb2 ho hfr).var (.cells #[.slice va l.length vc, .int .i64 r] 25))
  have hw1 : w.heap.size + 3 ≤ w1.heap.size := (Array.getElem?_eq_some_iff.1 S1.out.b0).1
  have HVf : Hid (∀ b o s, va = some ⟨b, o, s⟩ → w1.heap.size + 1 ≤ b) := mkHid (fun b o s e => by have := hfr b o s e; simp at this; omega)
  have hw2 : w1.heap.size + 1 ≤ w2.heap.size := by have := hb2.size; simp at this; omega
  clear e0 e1 e2 ef f0 f1 f2 f3 d0 d1 d0' d1' hb2 ho hown HC hfr u0 u1 u2 l1 S2 S1
  obtain ⟨e0, e1, e2⟩ := cel3 S3.out.b2
  have ef := unfrozen S3.out.b2
  obtain ⟨f0, f1, f2, f3⟩ := cel4 S3.out.b3
  obtain ⟨d0, d1⟩ := cel2 S3.out.b4
  obtain ⟨k0, k1, k2⟩ := cel3 S3.out.b1
  have kf := unfrozen S3.out.b1
  obtain ⟨m0, m1⟩ := cel2 S3.out.b0
  have mf := unfrozen S3.out.b0
  clear hf
  cases va with
  | none =>
    have S4 := mkHid ((S3.out.pick (bs' := [(w1.heap.size, .cells #[.string x0, .string x1, .int .i64 x2] 39), (w2.heap.size, .cells #[.slice none l.length vc, .int .i64 r] 25), (w.heap.size + 1 + 1, .cells #[.slice none 0 0, .int .i64 0, .int .i64 0] 31), (w.heap.size + 1, .cells #[.int .i64 3, .string t, .string t, .string x] 27), (w.heap.size, .cells #[.slice (some ⟨ga, oa, none⟩) l.length c, .int .i64 r] 25)]) (by intro p hp; simp at hp ⊢; rcases hp with rfl | rfl | rfl | rfl | rfl <;> simp)).wr 0 (.string t) (by omega) (fun p hp => by intro e; simp at hp; rcases hp with rfl | rfl | rfl | rfl <;> simp at e <;> omega) (fun p hp => by simp at hp; subst hp; exact mem.old_off HR.out (by omega)))
    simp only [List.setIfInBounds_toArray, List.set_cons_zero] at S4

    obtain ⟨m0', m1'⟩ := cel2 S4.out.b1
    obtain ⟨e0', e1', e2'⟩ := cel3 S4.out.b2
    have ef' := unfrozen S4.out.b2
    have HP := mkHid (opost_put (n := l.length) (q := 0) (r := r) (.slice none l.length vc) (.int .i64 r) (.int .i64 0) (B := w.heap.size + 1 + 1) (by omega) S4.out.o0 (fun b o s e => by have := HVf.out b o s e; omega) S4.out.below rfl hcap)
    clear S4 S3 HR HVf
    go_wp2
    refine bodyPost_ret (v := .agg #[.slice none l.length vc, .int .i64 r, .int .i64 0]) ?_ rfl ?_
    rotate_left
    · exact HP.out
    · simp [results, Try.results59, go_sem, e0', e1', e2']
  | some ad =>
    have S4 := mkHid ((S3.out.pick (bs' := [(w1.heap.size, .cells #[.string x0, .string x1, .int .i64 x2] 39), (w2.heap.size, .cells #[.slice (some ad) l.length vc, .int .i64 r] 25), (w.heap.size + 1 + 1, .cells #[.slice none 0 0, .int .i64 0, .int .i64 0] 31), (w.heap.size + 1, .cells #[.int .i64 3, .string t, .string t, .string x] 27), (w.heap.size, .cells #[.slice (some ⟨ga, oa, none⟩) l.length c, .int .i64 r] 25)]) (by intro p hp; simp at hp ⊢; rcases hp with rfl | rfl | rfl | rfl | rfl <;> simp)).wr 0 (.string t) (by omega) (fun p hp => by intro e; simp at hp; rcases hp with rfl | rfl | rfl | rfl <;> simp at e <;> omega) (fun p hp => by simp at hp; subst hp; exact mem.old_off HR.out (by omega)))
    simp only [List.setIfInBounds_toArray, List.set_cons_zero] at S4

    obtain ⟨m0', m1'⟩ := cel2 S4.out.b1
    obtain ⟨e0', e1', e2'⟩ := cel3 S4.out.b2
    have ef' := unfrozen S4.out.b2
    have HP := mkHid (opost_put (n := l.length) (q := 0) (r := r) (.slice (some ad) l.length vc) (.int .i64 r) (.int .i64 0) (B := w.heap.size + 1 + 1) (by omega) S4.out.o0 (fun b o s e => by have := HVf.out b o s e; omega) S4.out.below rfl hcap)
    clear S4 S3 HR HVf
    go_wp2
    refine bodyPost_ret (v := .agg #[.slice (some ad) l.length vc, .int .i64 r, .int .i64 0]) ?_ rfl ?_
    rotate_left
    · exact HP.out
    · simp [results, Try.results59, go_sem, e0', e1', e2']
set_option maxRecDepth 100000 in
set_option maxHeartbeats 4000000 in
theorem doS_ren (a : Option Addr) (c : Nat) (l : List File) (r : Int) (n t x : ByteArray) (w : World) (hl : l.length ≤ 1048576) (hc : l.length ≤ c) (i : Nat) (f : File) (hf : l[i]? = some f) (hk : find l n = (i : Int)) (hn : t ≠ n) (hr : Rd w a (cs l)) :
    Calls Try.prog 59 #[.agg #[.slice a l.length c, .int .i64 r], .agg #[.int .i64 3, .string n, .string t, .string x]] w (OPost w (put (out l i) (t, f.2.1, f.2.2)) r 0) := by
  have S0 := mkHid (((((mem.startR hr).var (.cells #[.slice a l.length c, .int .i64 r] 25)).var (.cells #[.int .i64 3, .string n, .string t, .string x] 27)).var (.cells #[.slice none 0 0, .int .i64 0, .int .i64 0] 31)))
  have hz : (w.alloc (.cells #[.slice a l.length c, .int .i64 r] 25)).heap.size = w.heap.size + 1 := by simp
  have hz2 : ((w.alloc (.cells #[.slice a l.length c, .int .i64 r] 25)).alloc (.cells #[.int .i64 3, .string n, .string t, .string x] 27)).heap.size = w.heap.size + 1 + 1 := by simp
  rw [hz, hz2] at S0
  have HF := mkHid (find_any a c l r n _ hl S0.out.r0)
  rw [hk] at HF
  have HC := mkHid (fun wx (hx : Rd wx a (cs l)) => copyS_any a c l r wx hl hx)
  unfold CPost at HC
  have hkl : i < l.length := (List.getElem?_eq_some_iff.1 hf).1
  have hkl2 : (i : Int) < (l.length : Int) := by omega
  have hki : ¬ (i : Int) < 0 := by omega
  have HR := mkHid hr
  clear hr hk
  go_enter Try.func59, Try.ntmps59
  go_wp2_with fail
  refine HF.out.mono ?_
  rintro e w1 ⟨rfl, hb1⟩
  have S1 := mkHid (S0.out.next hb1)
  obtain ⟨e0, e1, e2⟩ := cel3 S1.out.b0
  have ef : ∀ j, w1.frozen? ⟨w.heap.size + 1 + 1, j, none⟩ = false := unfrozen S1.out.b0
  obtain ⟨f0, f1, f2, f3⟩ := cel4 S1.out.b1
  obtain ⟨d0, d1⟩ := cel2 S1.out.b2
  clear hb1 HF S0
  obtain ⟨x0, x1, x2⟩ := f
  obtain ⟨ga, oa, rfl, u0, u1, u2, l1⟩ := rwStored.el S1.out.r0 hf
  simp only at u0 u1 u2
  have S2 := mkHid (S1.out.var (.cells #[.string x0, .string x1, .int .i64 x2] 39))
  obtain ⟨d0', d1'⟩ := cel2 S2.out.b3
  go_wp2_with fail
  refine (HC.out _ S2.out.r0).mono ?_
  rintro e w2 ⟨v, rfl, hown, hb2⟩
  obtain ⟨va, vc, rfl, ho, hfr⟩ := mem.own_of hown
  have hcap : l.length ≤ vc := own_cap hown
  have S3 := mkHid ((S2.out.own hb2 ho hfr).var (.cells #[.slice va l.length vc, .int .i64 r] 25))
  have hw1 : w.heap.size + 3 ≤ w1.heap.size := (Array.getElem?_eq_some_iff.1 S1.out.b0).1
  have HVf : Hid (∀ b o s, va = some ⟨b, o, s⟩ → w1.heap.size + 1 ≤ b) := mkHid (fun b o s e => by have := hfr b o s e; simp at this; omega)
  have hw2 : w1.heap.size + 1 ≤ w2.heap.size := by have := hb2.size; simp at this; omega
  clear e0 e1 e2 ef f0 f1 f2 f3 d0 d1 d0' d1' hb2 ho hown HC hfr u0 u1 u2 l1 S2 S1
  obtain ⟨e0, e1, e2⟩ := cel3 S3.out.b2
  have ef := unfrozen S3.out.b2
  obtain ⟨f0, f1, f2, f3⟩ := cel4 S3.out.b3
  obtain ⟨d0, d1⟩ := cel2 S3.out.b4
  obtain ⟨k0, k1, k2⟩ := cel3 S3.out.b1
  have kf := unfrozen S3.out.b1
  obtain ⟨m0, m1⟩ := cel2 S3.out.b0
  have mf := unfrozen S3.out.b0
  have heq := bytes_ne hn
  have heq2 : (!(t.toList == n.toList)) = true := by rw [heq]; rfl
  clear hf
  have HOu := mkHid (fun wx (hx : Rd wx (some ⟨ga, oa, none⟩) (cs l)) => outS_any (some ⟨ga, oa, none⟩) c l i wx hl hkl hc hx)
  unfold RPost at HOu
  have hol : (out l i).length ≤ 1048576 := by have := (out_len hkl).2.2; omega
  simp only
  generalize out l i = l2 at *
  have HIn := mkHid (fun g cap wx (hc2 : l2.length ≤ cap) (hx : Rd wx (some ⟨g, 0, none⟩) (cs l2)) => inS_any (some ⟨g, 0, none⟩) cap l2 t x1 x2 wx hol hc2 hx)
  unfold RPost at HIn
  generalize put l2 (t, x1, x2) = l3 at *
  cases va with
  | none =>
    have S4 := mkHid ((S3.out.pick (bs' := [(w1.heap.size, .cells #[.string x0, .string x1, .int .i64 x2] 39), (w2.heap.size, .cells #[.slice none l.length vc, .int .i64 r] 25), (w.heap.size + 1 + 1, .cells #[.slice none 0 0, .int .i64 0, .int .i64 0] 31), (w.heap.size + 1, .cells #[.int .i64 3, .string n, .string t, .string x] 27), (w.heap.size, .cells #[.slice (some ⟨ga, oa, none⟩) l.length c, .int .i64 r] 25)]) (by intro p hp; simp at hp ⊢; rcases hp with rfl | rfl | rfl | rfl | rfl <;> simp)).wr 0 (.string t) (by omega) (fun p hp => by intro e; simp at hp; rcases hp with rfl | rfl | rfl | rfl <;> simp at e <;> omega) (fun p hp => by simp at hp; subst hp; exact mem.old_off HR.out (by omega)))
    simp only [List.setIfInBounds_toArray, List.set_cons_zero] at S4

    have S4r := S4.out.r0
    obtain ⟨m0', m1'⟩ := cel2 S4.out.b1
    have mf' := unfrozen S4.out.b1
    obtain ⟨k0', k1', k2'⟩ := cel3 S4.out.b0
    obtain ⟨d0', d1'⟩ := cel2 S4.out.b4
    obtain ⟨f0', f1', f2', f3'⟩ := cel4 S4.out.b3
    have hS4 : (w2.alloc (.cells #[.slice none l.length vc, .int .i64 r] 25)).heap.size = w2.heap.size + 1 := by simp
    generalize hW : (w2.alloc (.cells #[.slice none l.length vc, .int .i64 r] 25)) = wA at *
    go_wp2_with fail
    generalize hV : wA.setCell ⟨w1.heap.size, 0, none⟩ (.string t) = wB at *
    have hsB : wB.heap.size = w2.heap.size + 1 := by rw [← hV]; simp; exact hS4
    clear e0 e1 e2 ef f0 f1 f2 f3 d0 d1 k0 k1 k2 kf m0 m1 mf hV S3
    have v1 : w2.heap.size ≠ w.heap.size := by omega
    have v2 : w.heap.size ≠ w2.heap.size := by omega
    have v3 : w2.heap.size ≠ w1.heap.size := by omega
    have v4 : w1.heap.size ≠ w2.heap.size := by omega
    go_region_held3 (fun w' => w'.cell? ⟨w.heap.size, 0, none⟩ = some (.slice (some ⟨ga, oa, none⟩) l.length c) ∧ w'.cell? ⟨w1.heap.size, 0, none⟩ = some (.string t) ∧ w'.cell? ⟨w1.heap.size, 1, none⟩ = some (.string x1) ∧ w'.cell? ⟨w1.heap.size, 2, none⟩ = some (.int .i64 x2)) (go_keep)
      (first
       | (go_at_call 107; refine Calls.mono (HOu.out _ S4r) ?_; rintro e w3 ⟨g, cap, rfl, hown, hb3⟩; have S5 := mkHid (S4.out.row (re (w := wB) hb3 rfl rfl rfl rfl) (Own.owns hown).rd (fun b o s e => by cases e; exact (hown.lt g rfl).1)); have hgc := own_cap hown; obtain ⟨p0, p1⟩ := cel2 S5.out.b4; obtain ⟨q0, q1, q2⟩ := cel3 S5.out.b0; clear hb3 hown)
       | (go_at_call 105; refine Calls.mono (HIn.out _ _ _ hgc S5.out.r0) ?_; rintro e w4 ⟨g4, cap4, rfl, hown, hb4⟩; have S6 := mkHid (S5.out.next (re (w := w3) hb4 rfl rfl rfl rfl)); obtain ⟨s0, s1⟩ := cel2 S6.out.b4; obtain ⟨t0, t1, t2⟩ := cel3 S6.out.b0; obtain ⟨u0, u1⟩ := cel2 S6.out.b1; have uf := unfrozen S6.out.b1; have HOwn := mkHid hown; clear hb4 hown))
    have hg1 := (HOwn.out.lt g4 rfl).1
    have hg0 : wB.heap.size ≤ w3.heap.size := by have := S5.out.below.size; have h9 := (Array.getElem?_eq_some_iff.1 S5.out.b1).1; omega
    have hg2 : w2.heap.size + 1 ≤ g4 := by omega
    have hO5 : OwnV 39 (w4.setCell ⟨w2.heap.size, 0, none⟩ (.slice (some ⟨g4, 0, none⟩) l3.length cap4)) (some ⟨g4, 0, none⟩) (cs l3) := own_off (p := ⟨w2.heap.size, 0, none⟩) (.inr ⟨g4, rfl, Own.owns HOwn.out⟩) (fun b o s e => by cases e; simp; omega)
    have HP := mkHid (opost_put (n := l3.length) (q := 0) (r := r) (.slice (some ⟨g4, 0, none⟩) l3.length cap4) (.int .i64 r) (.int .i64 0) (B := w.heap.size + 1 + 1) (by omega) hO5 (fun b o s e => by cases e; omega) (S6.out.below.setCell (p := ⟨w2.heap.size, 0, none⟩) (by simp; omega) _) rfl (own_cap HOwn.out))
    obtain ⟨z0, z1, z2⟩ := cel3 (blk_set S6.out.b2 ⟨w2.heap.size, 0, none⟩ (.slice (some ⟨g4, 0, none⟩) l3.length cap4) (by simp; omega))
    have zf := unfrozen (blk_set S6.out.b2 ⟨w2.heap.size, 0, none⟩ (.slice (some ⟨g4, 0, none⟩) l3.length cap4) (by simp; omega))
    clear hO5 HOwn S4 S5 S6 HR hg1
    go_wp2
    refine bodyPost_ret (v := .agg #[.slice (some ⟨g4, 0, none⟩) l3.length cap4, .int .i64 r, .int .i64 0]) ?_ rfl ?_
    rotate_left
    · exact HP.out
    · simp [results, Try.results59, go_sem, z0, z1, z2]
  | some ad =>
    have S4 := mkHid ((S3.out.pick (bs' := [(w1.heap.size, .cells #[.string x0, .string x1, .int .i64 x2] 39), (w2.heap.size, .cells #[.slice (some ad) l.length vc, .int .i64 r] 25), (w.heap.size + 1 + 1, .cells #[.slice none 0 0, .int .i64 0, .int .i64 0] 31), (w.heap.size + 1, .cells #[.int .i64 3, .string n, .string t, .string x] 27), (w.heap.size, .cells #[.slice (some ⟨ga, oa, none⟩) l.length c, .int .i64 r] 25)]) (by intro p hp; simp at hp ⊢; rcases hp with rfl | rfl | rfl | rfl | rfl <;> simp)).wr 0 (.string t) (by omega) (fun p hp => by intro e; simp at hp; rcases hp with rfl | rfl | rfl | rfl <;> simp at e <;> omega) (fun p hp => by simp at hp; subst hp; exact mem.old_off HR.out (by omega)))
    simp only [List.setIfInBounds_toArray, List.set_cons_zero] at S4

    have S4r := S4.out.r0
    obtain ⟨m0', m1'⟩ := cel2 S4.out.b1
    have mf' := unfrozen S4.out.b1
    obtain ⟨k0', k1', k2'⟩ := cel3 S4.out.b0
    obtain ⟨d0', d1'⟩ := cel2 S4.out.b4
    obtain ⟨f0', f1', f2', f3'⟩ := cel4 S4.out.b3
    have hS4 : (w2.alloc (.cells #[.slice (some ad) l.length vc, .int .i64 r] 25)).heap.size = w2.heap.size + 1 := by simp
    generalize hW : (w2.alloc (.cells #[.slice (some ad) l.length vc, .int .i64 r] 25)) = wA at *
    go_wp2_with fail
    generalize hV : wA.setCell ⟨w1.heap.size, 0, none⟩ (.string t) = wB at *
    have hsB : wB.heap.size = w2.heap.size + 1 := by rw [← hV]; simp; exact hS4
    clear e0 e1 e2 ef f0 f1 f2 f3 d0 d1 k0 k1 k2 kf m0 m1 mf hV S3
    have v1 : w2.heap.size ≠ w.heap.size := by omega
    have v2 : w.heap.size ≠ w2.heap.size := by omega
    have v3 : w2.heap.size ≠ w1.heap.size := by omega
    have v4 : w1.heap.size ≠ w2.heap.size := by omega
    go_region_held3 (fun w' => w'.cell? ⟨w.heap.size, 0, none⟩ = some (.slice (some ⟨ga, oa, none⟩) l.length c) ∧ w'.cell? ⟨w1.heap.size, 0, none⟩ = some (.string t) ∧ w'.cell? ⟨w1.heap.size, 1, none⟩ = some (.string x1) ∧ w'.cell? ⟨w1.heap.size, 2, none⟩ = some (.int .i64 x2)) (go_keep)
      (first
       | (go_at_call 107; refine Calls.mono (HOu.out _ S4r) ?_; rintro e w3 ⟨g, cap, rfl, hown, hb3⟩; have S5 := mkHid (S4.out.row (re (w := wB) hb3 rfl rfl rfl rfl) (Own.owns hown).rd (fun b o s e => by cases e; exact (hown.lt g rfl).1)); have hgc := own_cap hown; obtain ⟨p0, p1⟩ := cel2 S5.out.b4; obtain ⟨q0, q1, q2⟩ := cel3 S5.out.b0; clear hb3 hown)
       | (go_at_call 105; refine Calls.mono (HIn.out _ _ _ hgc S5.out.r0) ?_; rintro e w4 ⟨g4, cap4, rfl, hown, hb4⟩; have S6 := mkHid (S5.out.next (re (w := w3) hb4 rfl rfl rfl rfl)); obtain ⟨s0, s1⟩ := cel2 S6.out.b4; obtain ⟨t0, t1, t2⟩ := cel3 S6.out.b0; obtain ⟨u0, u1⟩ := cel2 S6.out.b1; have uf := unfrozen S6.out.b1; have HOwn := mkHid hown; clear hb4 hown))
    have hg1 := (HOwn.out.lt g4 rfl).1
    have hg0 : wB.heap.size ≤ w3.heap.size := by have := S5.out.below.size; have h9 := (Array.getElem?_eq_some_iff.1 S5.out.b1).1; omega
    have hg2 : w2.heap.size + 1 ≤ g4 := by omega
    have hO5 : OwnV 39 (w4.setCell ⟨w2.heap.size, 0, none⟩ (.slice (some ⟨g4, 0, none⟩) l3.length cap4)) (some ⟨g4, 0, none⟩) (cs l3) := own_off (p := ⟨w2.heap.size, 0, none⟩) (.inr ⟨g4, rfl, Own.owns HOwn.out⟩) (fun b o s e => by cases e; simp; omega)
    have HP := mkHid (opost_put (n := l3.length) (q := 0) (r := r) (.slice (some ⟨g4, 0, none⟩) l3.length cap4) (.int .i64 r) (.int .i64 0) (B := w.heap.size + 1 + 1) (by omega) hO5 (fun b o s e => by cases e; omega) (S6.out.below.setCell (p := ⟨w2.heap.size, 0, none⟩) (by simp; omega) _) rfl (own_cap HOwn.out))
    obtain ⟨z0, z1, z2⟩ := cel3 (blk_set S6.out.b2 ⟨w2.heap.size, 0, none⟩ (.slice (some ⟨g4, 0, none⟩) l3.length cap4) (by simp; omega))
    have zf := unfrozen (blk_set S6.out.b2 ⟨w2.heap.size, 0, none⟩ (.slice (some ⟨g4, 0, none⟩) l3.length cap4) (by simp; omega))
    clear hO5 HOwn S4 S5 S6 HR hg1
    go_wp2
    refine bodyPost_ret (v := .agg #[.slice (some ⟨g4, 0, none⟩) l3.length cap4, .int .i64 r, .int .i64 0]) ?_ rfl ?_
    rotate_left
    · exact HP.out
    · simp [results, Try.results59, go_sem, z0, z1, z2]
end Go.Proofs.Ytfckgpmphcadeaa.drv
