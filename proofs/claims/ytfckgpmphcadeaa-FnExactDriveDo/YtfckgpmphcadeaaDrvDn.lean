/-
  What spec.l08Do answers and leaves where the op is no write. Conditions: at most 1,048,576 files, which lie in memory, of texts of at most 1,048,576 bytes, in a slice that holds them; the op's texts have at most 1,048,576 bytes.
-/
import Derived.Test.YtfckgpmphcadeaaDrvD
import Derived.Test.YtfckgpmphcadeaaMemW
namespace Go.Proofs.Ytfckgpmphcadeaa.drv
open Go.RowKit Go.Joins Go.Sort
open Go.Proofs.Ytfckgpmphcadeaa.base Go.Proofs.Ytfckgpmphcadeaa.blk Go.Proofs.Ytfckgpmphcadeaa.aid
open Go.Proofs.Ytfckgpmphcadeaa.row (Rd Own OwnV)
open Go.Proofs.Ytfckgpmphcadeaa.rwStored (cs)
set_option linter.unusedVariables false

theorem cs_sync : ∀ (l : List File) (k : Nat) (f : File) (x : Int), l[k]? = some f → (cs l).set (k * 3 + 2) (.int .i64 x) = cs (l.set k (f.1, f.2.1, x))
  | [], k, f, x, h => by simp at h
  | g :: r, 0, f, x, h => by
    simp at h
    subst h
    rw [List.set_cons_zero, rwStored.cs_cons, rwStored.cs_cons]
    rfl
  | g :: r, k + 1, f, x, h => by
    have ih := cs_sync r k f x (by simpa using h)
    rw [List.set_cons_succ, rwStored.cs_cons, rwStored.cs_cons, ← ih]
    have e : (k + 1) * 3 + 2 = (k * 3 + 2) + 1 + 1 + 1 := by omega
    rw [e]
    rfl
/-- the number of one file of a row of our own is written -/
theorem own_sync {w : World} {g k : Nat} {l : List File} {f : File} {x : Int} (h : Own 39 w g (cs l)) (hf : l[k]? = some f) : Own 39 (w.setCell ⟨g, k * 3 + 2, none⟩ (.int .i64 x)) g (cs (l.set k (f.1, f.2.1, x))) := by
  have hk := (List.getElem?_eq_some_iff.1 hf).1
  have hl : (cs l).length = 3 * l.length := rwStored.cs_len l
  have := h.set (k * 3 + 2) (by omega) (.int .i64 x)
  rw [cs_sync l k f x hf] at this
  exact this
set_option maxRecDepth 100000 in
set_option maxHeartbeats 4000000 in
theorem doS_none (a : Option Addr) (c : Nat) (l : List File) (r : Int) (q : Int) (n t x : ByteArray) (w : World) (hl : l.length ≤ 1048576) (hc : l.length ≤ c) (h1 : q ≠ 1) (hm : find l n = -1) (hr : Rd w a (cs l)) :
    Calls Try.prog 59 #[.agg #[.slice a l.length c, .int .i64 r], .agg #[.int .i64 q, .string n, .string t, .string x]] w (OPost w [] 0 8) := by
  have S0 := mkHid (((((mem.startR hr).var (.cells #[.slice a l.length c, .int .i64 r] 25)).var (.cells #[.int .i64 q, .string n, .string t, .string x] 27)).var (.cells #[.slice none 0 0, .int .i64 0, .int .i64 0] 31)))
  have hz : (w.alloc (.cells #[.slice a l.length c, .int .i64 r] 25)).heap.size = w.heap.size + 1 := by simp
  have hz2 : ((w.alloc (.cells #[.slice a l.length c, .int .i64 r] 25)).alloc (.cells #[.int .i64 q, .string n, .string t, .string x] 27)).heap.size = w.heap.size + 1 + 1 := by simp
  rw [hz, hz2] at S0
  have HF := mkHid (find_any a c l r n _ hl S0.out.r0)
  rw [hm] at HF
  clear hr
  go_enter Try.func59, Try.ntmps59
  go_wp2_with fail
  refine HF.out.mono ?_
  rintro e w1 ⟨rfl, hb1⟩
  have S1 := mkHid (S0.out.next hb1)
  obtain ⟨e0, e1, e2⟩ := cel3 S1.out.b0
  have ef : ∀ j, w1.frozen? ⟨w.heap.size + 1 + 1, j, none⟩ = false := unfrozen S1.out.b0
  obtain ⟨f0, f1, f2, f3⟩ := cel4 S1.out.b1
  obtain ⟨d0, d1⟩ := cel2 S1.out.b2
  clear hb1 HF S0
  have HP := mkHid (opost_code (q := 8) (.slice none 0 0) (.int .i64 0) (.int .i64 8) (B := w.heap.size + 1 + 1) (by omega) S1.out.below)
  go_wp2
  refine bodyPost_ret (v := .agg #[.slice none 0 0, .int .i64 0, .int .i64 8]) ?_ rfl ?_
  rotate_left
  · exact HP.out
  · simp [results, Try.results59, go_sem, e0, e1, e2]
set_option maxRecDepth 100000 in
set_option maxHeartbeats 4000000 in
theorem doS_sync (a : Option Addr) (c : Nat) (l : List File) (r : Int) (n t x : ByteArray) (w : World) (hl : l.length ≤ 1048576) (hc : l.length ≤ c) (i : Nat) (f : File) (hf : l[i]? = some f) (hk : find l n = (i : Int)) (hs : Small l) (hr : Rd w a (cs l)) :
    Calls Try.prog 59 #[.agg #[.slice a l.length c, .int .i64 r], .agg #[.int .i64 2, .string n, .string t, .string x]] w (OPost w (l.set i (f.1, f.2.1, (f.2.1.size : Int))) r 0) := by
  have S0 := mkHid (((((mem.startR hr).var (.cells #[.slice a l.length c, .int .i64 r] 25)).var (.cells #[.int .i64 2, .string n, .string t, .string x] 27)).var (.cells #[.slice none 0 0, .int .i64 0, .int .i64 0] 31)))
  have hz : (w.alloc (.cells #[.slice a l.length c, .int .i64 r] 25)).heap.size = w.heap.size + 1 := by simp
  have hz2 : ((w.alloc (.cells #[.slice a l.length c, .int .i64 r] 25)).alloc (.cells #[.int .i64 2, .string n, .string t, .string x] 27)).heap.size = w.heap.size + 1 + 1 := by simp
  rw [hz, hz2] at S0
  have HF := mkHid (find_any a c l r n _ hl S0.out.r0)
  rw [hk] at HF
  have HC := mkHid (fun wx (hx : Rd wx a (cs l)) => copyS_any a c l r wx hl hx)
  unfold CPost at HC
  have hkl : i < l.length := (List.getElem?_eq_some_iff.1 hf).1
  have hkl2 : (i : Int) < (l.length : Int) := by omega
  have hki : ¬ (i : Int) < 0 := by omega
  have HR := mkHid hr
  clear hr hk
  go_enter Try.func59, Try.ntmps59
  go_wp2_with fail
  refine HF.out.mono ?_
  rintro e w1 ⟨rfl, hb1⟩
  have S1 := mkHid (S0.out.next hb1)
  obtain ⟨e0, e1, e2⟩ := cel3 S1.out.b0
  have ef : ∀ j, w1.frozen? ⟨w.heap.size + 1 + 1, j, none⟩ = false := unfrozen S1.out.b0
  obtain ⟨f0, f1, f2, f3⟩ := cel4 S1.out.b1
  obtain ⟨d0, d1⟩ := cel2 S1.out.b2
  clear hb1 HF S0
  obtain ⟨x0, x1, x2⟩ := f
  obtain ⟨ga, oa, rfl, u0, u1, u2, l1⟩ := rwStored.el S1.out.r0 hf
  simp only at u0 u1 u2
  have S2 := mkHid (S1.out.var (.cells #[.string x0, .string x1, .int .i64 x2] 39))
  obtain ⟨d0', d1'⟩ := cel2 S2.out.b3
  go_wp2_with fail
  refine (HC.out _ S2.out.r0).mono ?_
  rintro e w2 ⟨v, rfl, hown, hb2⟩
  obtain ⟨va, vc, rfl, ho, hfr⟩ := mem.own_of hown
  have hcap : l.length ≤ vc := own_cap hown
  have S3 := mkHid ((S2.out.own hb2 ho hfr).var (.cells #[.slice va l.length vc, .int .i64 r] 25))
  have hw1 : w.heap.size + 3 ≤ w1.heap.size := (Array.getElem?_eq_some_iff.1 S1.out.b0).1
  have HVf : Hid (∀ b o s, va = some ⟨b, o, s⟩ → w1.heap.size + 1 ≤ b) := mkHid (fun b o s e => by have := hfr b o s e; simp at this; omega)
  have hw2 : w1.heap.size + 1 ≤ w2.heap.size := by have := hb2.size; simp at this; omega
  clear e0 e1 e2 ef f0 f1 f2 f3 d0 d1 d0' d1' hb2 ho hown HC hfr u0 u1 u2 l1 S2 S1
  obtain ⟨e0, e1, e2⟩ := cel3 S3.out.b2
  have ef := unfrozen S3.out.b2
  obtain ⟨f0, f1, f2, f3⟩ := cel4 S3.out.b3
  obtain ⟨d0, d1⟩ := cel2 S3.out.b4
  obtain ⟨k0, k1, k2⟩ := cel3 S3.out.b1
  have kf := unfrozen S3.out.b1
  obtain ⟨m0, m1⟩ := cel2 S3.out.b0
  have mf := unfrozen S3.out.b0
  have hx1 := (hs _ (List.mem_of_getElem? hf)).2
  simp only at hx1
  have hx1i : (x1.size : Int) ≤ 1048576 := by omega
  obtain ⟨g, rfl, hOw⟩ := own_some S3.out.o0 (by omega)
  have hne0 : cs l ≠ [] := fun e2 => by have := rwStored.cs_zero e2; rw [this] at hkl; simp at hkl
  have g2 := hOw.cell (rwStored.cs_at _ _ _ hf).2.2
  have gf := hOw.free
  simp only at g2
  have S4 := mkHid (S3.out.mark (grew_cell _ g (i * 3 + 2) (.int .i64 (x1.size : Int))) (fun b e => by cases e; exact ⟨hne0, 0, none, rfl⟩) (.inr ⟨g, rfl, own_sync hOw hf⟩) (fun _ => hne0))
  simp only at S4
  obtain ⟨m0', m1'⟩ := cel2 S4.out.b0
  obtain ⟨e0', e1', e2'⟩ := cel3 S4.out.b2
  have ef' := unfrozen S4.out.b2
  have HP : Hid (OPost w (l.set i (x0, x1, (x1.size : Int))) r 0 (.returned (.agg #[.slice (some ⟨g, 0, none⟩) l.length vc, .int .i64 r, .int .i64 0])) _) := mkHid (opost_put (.slice (some ⟨g, 0, none⟩) l.length vc) (.int .i64 r) (.int .i64 0) (B := w.heap.size + 1 + 1) (by omega) S4.out.o0 (fun b o s e => by have := HVf.out b o s e; omega) S4.out.below (by simp) hcap)
  clear hf hOw hs HR S3 S4
  go_wp2
  refine bodyPost_ret (v := .agg #[.slice (some ⟨g, 0, none⟩) l.length vc, .int .i64 r, .int .i64 0]) ?_ rfl ?_
  rotate_left
  · exact HP.out
  · simp [results, Try.results59, go_sem, e0', e1', e2']
set_option maxRecDepth 100000 in
set_option maxHeartbeats 4000000 in
theorem doS_rem (a : Option Addr) (c : Nat) (l : List File) (r : Int) (q : Int) (n t x : ByteArray) (w : World) (hl : l.length ≤ 1048576) (hc : l.length ≤ c) (h1 : q ≠ 1) (h2 : q ≠ 2) (h3 : q ≠ 3) (i : Nat) (f : File) (hf : l[i]? = some f) (hk : find l n = (i : Int)) (hr : Rd w a (cs l)) :
    Calls Try.prog 59 #[.agg #[.slice a l.length c, .int .i64 r], .agg #[.int .i64 q, .string n, .string t, .string x]] w (OPost w (out l i) r 0) := by
  have S0 := mkHid (((((mem.startR hr).var (.cells #[.slice a l.length c, .int .i64 r] 25)).var (.cells #[.int .i64 q, .string n, .string t, .string x] 27)).var (.cells #[.slice none 0 0, .int .i64 0, .int .i64 0] 31)))
  have hz : (w.alloc (.cells #[.slice a l.length c, .int .i64 r] 25)).heap.size = w.heap.size + 1 := by simp
  have hz2 : ((w.alloc (.cells #[.slice a l.length c, .int .i64 r] 25)).alloc (.cells #[.int .i64 q, .string n, .string t, .string x] 27)).heap.size = w.heap.size + 1 + 1 := by simp
  rw [hz, hz2] at S0
  have HF := mkHid (find_any a c l r n _ hl S0.out.r0)
  rw [hk] at HF
  have HC := mkHid (fun wx (hx : Rd wx a (cs l)) => copyS_any a c l r wx hl hx)
  unfold CPost at HC
  have hkl : i < l.length := (List.getElem?_eq_some_iff.1 hf).1
  have hkl2 : (i : Int) < (l.length : Int) := by omega
  have hki : ¬ (i : Int) < 0 := by omega
  have HR := mkHid hr
  clear hr hk
  go_enter Try.func59, Try.ntmps59
  go_wp2_with fail
  refine HF.out.mono ?_
  rintro e w1 ⟨rfl, hb1⟩
  have S1 := mkHid (S0.out.next hb1)
  obtain ⟨e0, e1, e2⟩ := cel3 S1.out.b0
  have ef : ∀ j, w1.frozen? ⟨w.heap.size + 1 + 1, j, none⟩ = false := unfrozen S1.out.b0
  obtain ⟨f0, f1, f2, f3⟩ := cel4 S1.out.b1
  obtain ⟨d0, d1⟩ := cel2 S1.out.b2
  clear hb1 HF S0
  obtain ⟨x0, x1, x2⟩ := f
  obtain ⟨ga, oa, rfl, u0, u1, u2, l1⟩ := rwStored.el S1.out.r0 hf
  simp only at u0 u1 u2
  have S2 := mkHid (S1.out.var (.cells #[.string x0, .string x1, .int .i64 x2] 39))
  obtain ⟨d0', d1'⟩ := cel2 S2.out.b3
  go_wp2_with fail
  refine (HC.out _ S2.out.r0).mono ?_
  rintro e w2 ⟨v, rfl, hown, hb2⟩
  obtain ⟨va, vc, rfl, ho, hfr⟩ := mem.own_of hown
  have hcap : l.length ≤ vc := own_cap hown
  have S3 := mkHid ((S2.out.own hb2 ho hfr).var (.cells #[.slice va l.length vc, .int .i64 r] 25))
  have hw1 : w.heap.size + 3 ≤ w1.heap.size := (Array.getElem?_eq_some_iff.1 S1.out.b0).1
  have HVf : Hid (∀ b o s, va = some ⟨b, o, s⟩ → w1.heap.size + 1 ≤ b) := mkHid (fun b o s e => by have := hfr b o s e; simp at this; omega)
  have hw2 : w1.heap.size + 1 ≤ w2.heap.size := by have := hb2.size; simp at this; omega
  clear e0 e1 e2 ef f0 f1 f2 f3 d0 d1 d0' d1' hb2 ho hown HC hfr u0 u1 u2 l1 S2 S1
  obtain ⟨e0, e1, e2⟩ := cel3 S3.out.b2
  have ef := unfrozen S3.out.b2
  obtain ⟨f0, f1, f2, f3⟩ := cel4 S3.out.b3
  obtain ⟨d0, d1⟩ := cel2 S3.out.b4
  obtain ⟨k0, k1, k2⟩ := cel3 S3.out.b1
  have kf := unfrozen S3.out.b1
  obtain ⟨m0, m1⟩ := cel2 S3.out.b0
  have mf := unfrozen S3.out.b0
  have HOu := mkHid (fun wx (hx : Rd wx (some ⟨ga, oa, none⟩) (cs l)) => outS_any (some ⟨ga, oa, none⟩) c l i wx hl hkl hc hx)
  unfold RPost at HOu
  have S3r := S3.out.r0
  generalize out l i = l2 at *
  cases va with
  | none =>
    go_wp2_with fail
    refine (HOu.out _ S3r).mono ?_
    rintro e w3 ⟨g, cap, rfl, hown, hb3⟩
    have S4 := mkHid (S3.out.next hb3)
    have hg := (hown.lt g rfl).1
    have hw3 : w2.heap.size + 1 ≤ g := by simp at hg; omega
    have S5 := mkHid (S4.out.wr 0 (.slice (some ⟨g, 0, none⟩) l2.length cap) (by omega) (fun p hp => by have := (S4.out.pick (bs' := _) (fun _ h => .tail _ h)).b p hp; intro e; simp at hp; rcases hp with rfl | rfl | rfl | rfl <;> simp at e <;> omega) (fun p hp => by simp at hp; subst hp; exact mem.old_off HR.out (by omega)))
    clear e0 e1 e2 ef f0 f1 f2 f3 d0 d1 k0 k1 k2 kf m0 m1 mf hb3
    obtain ⟨m0, m1⟩ := cel2 S4.out.b0
    have mf := unfrozen S4.out.b0
    obtain ⟨e0, e1, e2⟩ := cel3 S5.out.b2
    have ef := unfrozen S5.out.b2
    have hO5 : OwnV 39 (w3.setCell ⟨w2.heap.size, 0, none⟩ (.slice (some ⟨g, 0, none⟩) l2.length cap)) (some ⟨g, 0, none⟩) (cs l2) := own_off (p := ⟨w2.heap.size, 0, none⟩) (.inr ⟨g, rfl, Own.owns hown⟩) (fun b o s e => by cases e; simp; omega)
    have HP := mkHid (opost_put (n := l2.length) (q := 0) (r := r) (.slice (some ⟨g, 0, none⟩) l2.length cap) (.int .i64 r) (.int .i64 0) (B := w.heap.size + 1 + 1) (by omega) hO5 (fun b o s e => by cases e; omega) S5.out.below rfl (own_cap hown))
    clear hO5 hown S4 S5 S3 HR
    go_wp2
    refine bodyPost_ret (v := .agg #[.slice (some ⟨g, 0, none⟩) l2.length cap, .int .i64 r, .int .i64 0]) ?_ rfl ?_
    rotate_left
    · exact HP.out
    · simp [results, Try.results59, go_sem, e0, e1, e2]
  | some ad =>
    go_wp2_with fail
    refine (HOu.out _ S3r).mono ?_
    rintro e w3 ⟨g, cap, rfl, hown, hb3⟩
    have S4 := mkHid (S3.out.next hb3)
    have hg := (hown.lt g rfl).1
    have hw3 : w2.heap.size + 1 ≤ g := by simp at hg; omega
    have S5 := mkHid (S4.out.wr 0 (.slice (some ⟨g, 0, none⟩) l2.length cap) (by omega) (fun p hp => by have := (S4.out.pick (bs' := _) (fun _ h => .tail _ h)).b p hp; intro e; simp at hp; rcases hp with rfl | rfl | rfl | rfl <;> simp at e <;> omega) (fun p hp => by simp at hp; subst hp; exact mem.old_off HR.out (by omega)))
    clear e0 e1 e2 ef f0 f1 f2 f3 d0 d1 k0 k1 k2 kf m0 m1 mf hb3
    obtain ⟨m0, m1⟩ := cel2 S4.out.b0
    have mf := unfrozen S4.out.b0
    obtain ⟨e0, e1, e2⟩ := cel3 S5.out.b2
    have ef := unfrozen S5.out.b2
    have hO5 : OwnV 39 (w3.setCell ⟨w2.heap.size, 0, none⟩ (.slice (some ⟨g, 0, none⟩) l2.length cap)) (some ⟨g, 0, none⟩) (cs l2) := own_off (p := ⟨w2.heap.size, 0, none⟩) (.inr ⟨g, rfl, Own.owns hown⟩) (fun b o s e => by cases e; simp; omega)
    have HP := mkHid (opost_put (n := l2.length) (q := 0) (r := r) (.slice (some ⟨g, 0, none⟩) l2.length cap) (.int .i64 r) (.int .i64 0) (B := w.heap.size + 1 + 1) (by omega) hO5 (fun b o s e => by cases e; omega) S5.out.below rfl (own_cap hown))
    clear hO5 hown S4 S5 S3 HR
    go_wp2
    refine bodyPost_ret (v := .agg #[.slice (some ⟨g, 0, none⟩) l2.length cap, .int .i64 r, .int .i64 0]) ?_ rfl ?_
    rotate_left
    · exact HP.out
    · simp [results, Try.results59, go_sem, e0, e1, e2]
end Go.Proofs.Ytfckgpmphcadeaa.drv
