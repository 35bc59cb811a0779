/-
  What spec.l08Do and spec.DriveDo answer and leave. Conditions: at most 1,048,576 files, which lie in memory, of texts of at most 1,048,576 bytes, in a slice that holds them; the op's texts have at most 1,048,576 bytes.
-/
import Derived.Test.YtfckgpmphcadeaaDrvDr
namespace Go.Proofs.Ytfckgpmphcadeaa.drv
open Go.RowKit Go.Joins Go.Sort
open Go.Proofs.Ytfckgpmphcadeaa.base Go.Proofs.Ytfckgpmphcadeaa.blk Go.Proofs.Ytfckgpmphcadeaa.aid
open Go.Proofs.Ytfckgpmphcadeaa.row (Rd Own OwnV)
open Go.Proofs.Ytfckgpmphcadeaa.rwStored (cs)
set_option linter.unusedVariables false

theorem doS_all (a : Option Addr) (c : Nat) (l : List File) (r : Int) (q : Int) (n t x : ByteArray) (w : World) (hl : l.length ≤ 1048576) (hs : Small l) (hc : l.length ≤ c) (hx : x.size ≤ 1048576) (hr0 : 0 ≤ r) (hr : Rd w a (cs l)) :
    Calls Try.prog 59 #[.agg #[.slice a l.length c, .int .i64 r], .agg #[.int .i64 q, .string n, .string t, .string x]] w (OPost w (doR l r q n t x).1 (doR l r q n t x).2.1 (doR l r q n t x).2.2) := by
  by_cases h1 : q = 1
  · subst h1
    exact doS_w a c l r n t x w hl hs hc hx (by omega) hr
  rcases find_bd l n with hm | ⟨i, hk, hkl, f, hf, hfn⟩
  · have e : doR l r q n t x = ([], 0, 8) := by unfold doR; simp [h1, hm]
    rw [e]
    exact doS_none a c l r q n t x w hl hc h1 hm hr
  · have hi : (find l n).toNat = i := by omega
    have hn0 : ¬ find l n < 0 := by omega
    by_cases h2 : q = 2
    · subst h2
      have e : doR l r 2 n t x = (l.set i (f.1, f.2.1, (f.2.1.size : Int)), r, 0) := by unfold doR; simp [hn0, hi, hf]
      rw [e]
      exact doS_sync a c l r n t x w hl hc i f hf hk hs hr
    by_cases h3 : q = 3
    · subst h3
      by_cases h4 : t = n
      · have e : doR l r 3 n t x = (l, r, 0) := by unfold doR; simp [hn0, hi, hf, h4]
        rw [e]
        exact doS_same a c l r n t x w hl hc i f hf hk h4 hr
      · have e : doR l r 3 n t x = (put (out l i) (t, f.2.1, f.2.2), r, 0) := by unfold doR; simp [hn0, hi, hf, h4]
        rw [e]
        exact doS_ren a c l r n t x w hl hc i f hf hk h4 hr
    have e : doR l r q n t x = (out l i, r, 0) := by unfold doR; simp [hn0, hi, hf, h1, h2, h3]
    rw [e]
    exact doS_rem a c l r q n t x w hl hc h1 h2 h3 i f hf hk hr

set_option maxRecDepth 100000 in
set_option maxHeartbeats 4000000 in
theorem driveDoS_any (a : Option Addr) (c : Nat) (l : List File) (r : Int) (q : Int) (n t x : ByteArray) (w : World) (hl : l.length ≤ 1048576) (hs : Small l) (hc : l.length ≤ c) (hn : n.size ≤ 1048576) (ht : t.size ≤ 1048576) (hx : x.size ≤ 1048576) (hr : Rd w a (cs l)) :
    Calls Try.prog 12 #[.agg #[.slice a l.length c, .int .i64 r], .agg #[.int .i64 q, .string n, .string t, .string x]] w (OPost w (doT l r q n t x).1 (doT l r q n t x).2.1 (doT l r q n t x).2.2) := by
  have S0 := mkHid (((((mem.startR hr).var (.cells #[.slice a l.length c, .int .i64 r] 25)).var (.cells #[.int .i64 q, .string n, .string t, .string x] 27)).var (.cells #[.slice none 0 0, .int .i64 0, .int .i64 0] 31)))
  have hz : (w.alloc (.cells #[.slice a l.length c, .int .i64 r] 25)).heap.size = w.heap.size + 1 := by simp
  have hz2 : ((w.alloc (.cells #[.slice a l.length c, .int .i64 r] 25)).alloc (.cells #[.int .i64 q, .string n, .string t, .string x] 27)).heap.size = w.heap.size + 1 + 1 := by simp
  rw [hz, hz2] at S0
  have HR := mkHid (right_any a c l r _ hl hs S0.out.r0)
  have HOp := mkHid (fun wx => op_any q n t x wx hn ht hx)
  have HD := mkHid (fun h0 wx (hq : Rd wx a (cs l)) => doS_all a c l r q n t x wx hl hs hc hx h0 hq)
  have hr0 := mkHid (fun (h : driveB l r = true) => (driveB_parts h).2.1)
  clear hr hs hz hz2
  cases hd : driveB l r with
  | false =>
    have E : doT l r q n t x = ([], 0, 1) := by unfold doT; rw [hd]; rfl
    rw [E]
    rw [hd] at HR
    go_enter Try.func12, Try.ntmps12
    go_wp2_with fail
    refine HR.out.mono ?_
    rintro e w1 ⟨rfl, hb1⟩
    have S1 := mkHid (S0.out.next hb1)
    obtain ⟨e0, e1, e2⟩ := cel3 S1.out.b0
    have ef := unfrozen S1.out.b0
    have HP := mkHid (opost_code (q := 1) (.slice none 0 0) (.int .i64 0) (.int .i64 1) (B := w.heap.size + 1 + 1) (by omega) S1.out.below)
    clear hb1 HR S0
    go_wp2
    refine bodyPost_ret (v := .agg #[.slice none 0 0, .int .i64 0, .int .i64 1]) ?_ rfl ?_
    rotate_left
    · exact HP.out
    · simp [results, Try.results12, go_sem, e0, e1, e2]
  | true =>
    rw [hd] at HR
    have hr0 := hr0.out hd
    cases ho : opB q n t x with
    | false =>
      have E : doT l r q n t x = ([], 0, 1) := by unfold doT; rw [hd, ho]; rfl
      rw [E]
      rw [ho] at HOp
      go_enter Try.func12, Try.ntmps12
      go_wp2_with fail
      refine HR.out.mono ?_
      rintro e w1 ⟨rfl, hb1⟩
      have S1 := mkHid (S0.out.next hb1)
      obtain ⟨f0, f1, f2, f3⟩ := cel4 S1.out.b1
      clear hb1 HR S0
      go_wp2_with fail
      refine (HOp.out _).mono ?_
      rintro e w2 ⟨rfl, hb2⟩
      have S2 := mkHid (S1.out.next hb2)
      obtain ⟨e0, e1, e2⟩ := cel3 S2.out.b0
      have ef := unfrozen S2.out.b0
      have HP := mkHid (opost_code (q := 1) (.slice none 0 0) (.int .i64 0) (.int .i64 1) (B := w.heap.size + 1 + 1) (by omega) S2.out.below)
      clear hb2 S1 f0 f1 f2 f3
      go_wp2
      refine bodyPost_ret (v := .agg #[.slice none 0 0, .int .i64 0, .int .i64 1]) ?_ rfl ?_
      rotate_left
      · exact HP.out
      · simp [results, Try.results12, go_sem, e0, e1, e2]
    | true =>
      have E : doT l r q n t x = doR l r q n t x := by unfold doT; rw [hd, ho]; rfl
      rw [E]
      rw [ho] at HOp
      have HD1 := mkHid (HD.out hr0)
      unfold OPost at HD1
      generalize doR l r q n t x = o at *
      obtain ⟨l2, r2, q2⟩ := o
      simp only at HD1 ⊢
      go_enter Try.func12, Try.ntmps12
      go_wp2_with fail
      refine HR.out.mono ?_
      rintro e w1 ⟨rfl, hb1⟩
      have S1 := mkHid (S0.out.next hb1)
      obtain ⟨f0, f1, f2, f3⟩ := cel4 S1.out.b1
      clear hb1 HR S0
      go_wp2_with fail
      refine (HOp.out _).mono ?_
      rintro e w2 ⟨rfl, hb2⟩
      have S2 := mkHid (S1.out.next hb2)
      obtain ⟨f0, f1, f2, f3⟩ := cel4 S2.out.b1
      obtain ⟨d0, d1⟩ := cel2 S2.out.b2
      clear hb2 S1
      go_wp2_with fail
      refine (HD1.out _ S2.out.r0).mono ?_
      rintro e w3 ⟨va, vc, rfl, hown, hfr, hb3, hcap⟩
      have S3 := mkHid (S2.out.next hb3)
      have hw2 : w.heap.size + 3 ≤ w2.heap.size := (Array.getElem?_eq_some_iff.1 S2.out.b0).1
      obtain ⟨e0, e1, e2⟩ := cel3 S3.out.b0
      have ef := unfrozen S3.out.b0
      have HP := mkHid (opost_put (r := r2) (q := q2) (.slice va l2.length vc) (.int .i64 r2) (.int .i64 q2) (B := w.heap.size + 1 + 1) (by omega) hown (fun b o s e => by have := hfr b o s e; omega) S3.out.below rfl hcap)
      clear hb3 S2 HD HD1 f0 f1 f2 f3 d0 d1 hown hfr
      cases va with
      | none =>
        go_wp2
        refine bodyPost_ret (v := .agg #[.slice none l2.length vc, .int .i64 r2, .int .i64 q2]) ?_ rfl ?_
        rotate_left
        · exact HP.out
        · simp [results, Try.results12, go_sem, e0, e1, e2]
      | some ad =>
        go_wp2
        refine bodyPost_ret (v := .agg #[.slice (some ad) l2.length vc, .int .i64 r2, .int .i64 q2]) ?_ rfl ?_
        rotate_left
        · exact HP.out
        · simp [results, Try.results12, go_sem, e0, e1, e2]
end Go.Proofs.Ytfckgpmphcadeaa.drv
