/-
  What spec.l08Do and spec.DriveDo answer and leave. Conditions: at most 1,048,576 files, which lie in memory, of texts of at most 1,048,576 bytes, in a slice that holds them; the op's texts have at most 1,048,576 bytes.
-/
import Derived.Test.YtfckgpmphcadeaaDrvI2
namespace Go.Proofs.Ytfckgpmphcadeaa.drv
open Go.RowKit Go.Joins Go.Sort
open Go.Proofs.Ytfckgpmphcadeaa.base Go.Proofs.Ytfckgpmphcadeaa.blk Go.Proofs.Ytfckgpmphcadeaa.aid
open Go.Proofs.Ytfckgpmphcadeaa.row (Rd Own OwnV)
open Go.Proofs.Ytfckgpmphcadeaa.rwStored (cs)
set_option linter.unusedVariables false

/-- a drive of its own and a code are the answer -/
def OPost (w : World) (l : List File) (r q : Int) (e : Ending) (w' : World) : Prop :=
  ∃ a c, e = .returned (.agg #[.slice a l.length c, .int .i64 r, .int .i64 q]) ∧ OwnV 39 w' a (cs l) ∧ (∀ b o s, a = some ⟨b, o, s⟩ → w.heap.size ≤ b) ∧ Below w.heap.size w w' ∧ l.length ≤ c
theorem below_three {B g : Nat} {w w1 : World} (hb : Below B w w1) (hB : B ≤ g) (hs : B ≤ w1.heap.size) (a b d : Value) : Below B w (((w1.setCell ⟨g, 0, none⟩ a).setCell ⟨g, 1, none⟩ b).setCell ⟨g, 2, none⟩ d) :=
  (below_two hb hB hs a b).setCell (p := ⟨g, 2, none⟩) hB d
theorem opost_put {w w1 : World} {va : Option Addr} {n vc B : Nat} {l : List File} {r q : Int} (x y z : Value) (hB : w.heap.size ≤ B) (ho : OwnV 39 w1 va (cs l)) (hf : ∀ b o s, va = some ⟨b, o, s⟩ → B + 1 ≤ b) (hb : Below w.heap.size w w1) (hn : n = l.length) (hc : n ≤ vc) :
    OPost w l r q (.returned (.agg #[.slice va n vc, .int .i64 r, .int .i64 q])) (((w1.setCell ⟨B, 0, none⟩ x).setCell ⟨B, 1, none⟩ y).setCell ⟨B, 2, none⟩ z) := by
  subst hn
  have hne : ∀ b o s, va = some ⟨b, o, s⟩ → b ≠ B := fun b o s e => by have := hf b o s e; omega
  exact ⟨va, vc, rfl, own_off (p := ⟨B, 2, none⟩) (own_off (p := ⟨B, 1, none⟩) (own_off (p := ⟨B, 0, none⟩) ho hne) hne) hne, fun b o s e => by have := hf b o s e; omega, below_three hb hB hb.size _ _ _, hc⟩
theorem opost_code {w w1 : World} {B : Nat} {q : Int} (x y z : Value) (hB : w.heap.size ≤ B) (hb : Below w.heap.size w w1) :
    OPost w [] 0 q (.returned (.agg #[.slice none 0 0, .int .i64 0, .int .i64 q])) (((w1.setCell ⟨B, 0, none⟩ x).setCell ⟨B, 1, none⟩ y).setCell ⟨B, 2, none⟩ z) :=
  opost_put (l := []) x y z hB (.inl rfl) (fun b o s e => by simp at e) hb rfl (Nat.le_refl _)
theorem cel4 {w : World} {g t : Nat} {a b c d : Value} (h : w.heap[g]? = some (.cells #[a, b, c, d] t)) : w.cell? ⟨g, 0, none⟩ = some a ∧ w.cell? ⟨g, 1, none⟩ = some b ∧ w.cell? ⟨g, 2, none⟩ = some c ∧ w.cell? ⟨g, 3, none⟩ = some d := by
  refine ⟨?_, ?_, ?_, ?_⟩ <;> simp [World.cell?, h]
set_option maxRecDepth 100000 in
set_option maxHeartbeats 4000000 in
theorem doS_w (a : Option Addr) (c : Nat) (l : List File) (r : Int) (n t x : ByteArray) (w : World) (hl : l.length ≤ 1048576) (hs : Small l) (hc : l.length ≤ c) (hx : x.size ≤ 1048576) (hr0 : -9223372036854775808 ≤ r) (hr : Rd w a (cs l)) :
    Calls Try.prog 59 #[.agg #[.slice a l.length c, .int .i64 r], .agg #[.int .i64 1, .string n, .string t, .string x]] w (OPost w (doR l r 1 n t x).1 (doR l r 1 n t x).2.1 (doR l r 1 n t x).2.2) := by
  have S0 := mkHid (((((mem.startR hr).var (.cells #[.slice a l.length c, .int .i64 r] 25)).var (.cells #[.int .i64 1, .string n, .string t, .string x] 27)).var (.cells #[.slice none 0 0, .int .i64 0, .int .i64 0] 31)))
  have hz : (w.alloc (.cells #[.slice a l.length c, .int .i64 r] 25)).heap.size = w.heap.size + 1 := by simp
  have hz2 : ((w.alloc (.cells #[.slice a l.length c, .int .i64 r] 25)).alloc (.cells #[.int .i64 1, .string n, .string t, .string x] 27)).heap.size = w.heap.size + 1 + 1 := by simp
  rw [hz, hz2] at S0
  have HF := mkHid (find_any a c l r n _ hl S0.out.r0)
  have HBD := mkHid (find_bd l n)
  have HBy := mkHid (fun wx (hq : Rd wx a (cs l)) => bytes_any a c l r wx hl hs hq)
  have HIn := mkHid (fun wx (hq : Rd wx a (cs l)) => inS_any a c l n x 0 wx hl hc hq)
  unfold RPost at HIn
  have hbs := bytes_le l (fun f hf => (hs f hf).2)
  have hb0 := bytes_pos l
  have hxi : (x.size : Int) ≤ 1048576 := by omega
  have E1 : Hid (0 ≤ find l n → doR l r 1 n t x = ([], 0, 7)) := mkHid (fun h => by unfold doR; simp [h])
  have E2 : Hid (find l n = -1 → (60 ≤ l.length ∨ r < bytes l + x.size) → doR l r 1 n t x = ([], 0, 11)) := mkHid (fun h h2 => by unfold doR; simp [h]; omega)
  have E3 : Hid (find l n = -1 → ¬ (60 ≤ l.length ∨ r < bytes l + x.size) → doR l r 1 n t x = (put l (n, x, 0), r, 0)) := mkHid (fun h h2 => by unfold doR; simp [h]; omega)
  obtain ⟨o, ho⟩ : ∃ o, o = doR l r 1 n t x := ⟨_, rfl⟩
  rw [← ho]
  have HO := mkHid ho
  clear hr hs ho
  go_enter Try.func59, Try.ntmps59
  go_wp2_with fail
  refine HF.out.mono ?_
  rintro e w1 ⟨rfl, hb1⟩
  have S1 := mkHid (S0.out.next hb1)
  obtain ⟨e0, e1, e2⟩ := cel3 S1.out.b0
  have ef : ∀ j, w1.frozen? ⟨w.heap.size + 1 + 1, j, none⟩ = false := unfrozen S1.out.b0
  obtain ⟨f0, f1, f2, f3⟩ := cel4 S1.out.b1
  obtain ⟨d0, d1⟩ := cel2 S1.out.b2
  clear hb1 HF S0
  rcases HBD.out with hm | ⟨k, hk, hkl, f, hf, hfn⟩
  · rw [hm]
    by_cases h6 : 60 ≤ l.length
    · obtain rfl : o = ([], 0, 11) := by rw [HO.out, E2.out hm (.inl h6)]
      have h6i : 60 ≤ (l.length : Int) := by omega
      clear hm E1 E2 E3 HO
      go_wp2_with fail
      go_quiet (fail)
      have HP := mkHid (opost_code (q := 11) (.slice none 0 0) (.int .i64 0) (.int .i64 11) (B := w.heap.size + 1 + 1) (by omega) (below_drewN (n := nq) S1.out.below))
      go_wp2
      refine bodyPost_ret (v := .agg #[.slice none 0 0, .int .i64 0, .int .i64 11]) ?_ rfl ?_
      rotate_left
      · exact HP.out
      · simp [results, Try.results59, go_sem, e0, e1, e2]
    · have h6i : (l.length : Int) < 60 := by omega
      have h6d : (decide (60 ≤ (l.length : Int))) = false := by simp; omega
      go_wp2_with fail
      go_region_held3 (fun w' => w'.cell? ⟨w.heap.size, 0, none⟩ = some (.slice a l.length c) ∧ w'.cell? ⟨w.heap.size, 1, none⟩ = some (.int .i64 r) ∧ w'.cell? ⟨w.heap.size + 1, 3, none⟩ = some (.string x)) (go_keep)
        ((go_at_call 61; refine Calls.mono (HBy.out _ S1.out.r0) ?_; rintro e w2 ⟨rfl, hb2⟩; have S2 := mkHid (S1.out.next (re (w := w1) hb2 rfl rfl rfl rfl)); obtain ⟨p0, p1⟩ := cel2 S2.out.b2; obtain ⟨q0, q1, q2, q3⟩ := cel4 S2.out.b1; clear hb2))
      clear e0 e1 e2 ef f0 f1 f2 f3 d0 d1 p0 p1 q0 q1 q2 q3 S1 HBy
      have hsum : IntKind.i64.wrap (bytes l + (x.size : Int)) = bytes l + (x.size : Int) := by rw [IntKind.wrap_i64]; omega
      by_cases h7 : r < bytes l + (x.size : Int)
      · obtain rfl : o = ([], 0, 11) := by rw [HO.out, E2.out hm (.inr h7)]
        clear hm E1 E2 E3 HO
        obtain ⟨e0, e1, e2⟩ := cel3 S2.out.b0
        have ef : ∀ j, w2.frozen? ⟨w.heap.size + 1 + 1, j, none⟩ = false := unfrozen S2.out.b0
        obtain ⟨f0, f1, f2, f3⟩ := cel4 S2.out.b1
        obtain ⟨d0, d1⟩ := cel2 S2.out.b2
        have HP := mkHid (opost_code (q := 11) (.slice none 0 0) (.int .i64 0) (.int .i64 11) (B := w.heap.size + 1 + 1) (by omega) S2.out.below)
        go_wp2
        refine bodyPost_ret (v := .agg #[.slice none 0 0, .int .i64 0, .int .i64 11]) ?_ rfl ?_
        rotate_left
        · exact HP.out
        · simp [results, Try.results59, go_sem, e0, e1, e2]
      · obtain rfl : o = (put l (n, x, 0), r, 0) := by rw [HO.out, E3.out hm (by omega)]
        clear hm E1 E2 E3 HO
        obtain ⟨e0, e1, e2⟩ := cel3 S2.out.b0
        have ef : ∀ j, w2.frozen? ⟨w.heap.size + 1 + 1, j, none⟩ = false := unfrozen S2.out.b0
        obtain ⟨f0, f1, f2, f3⟩ := cel4 S2.out.b1
        obtain ⟨d0, d1⟩ := cel2 S2.out.b2
        generalize put l (n, x, 0) = l2 at *
        have hq1 : w.heap.size ≠ w.heap.size + 1 + 1 := by omega
        have hq2 : w.heap.size + 1 + 1 ≠ w.heap.size := by omega
        go_wp2_with fail
        go_region_held3 (fun w' => w'.cell? ⟨w.heap.size, 0, none⟩ = some (.slice a l.length c) ∧ w'.cell? ⟨w.heap.size, 1, none⟩ = some (.int .i64 r) ∧ w'.cell? ⟨w.heap.size + 1, 1, none⟩ = some (.string n) ∧ w'.cell? ⟨w.heap.size + 1, 3, none⟩ = some (.string x)) (go_keep)
          ((go_at_call 105; refine Calls.mono (HIn.out _ S2.out.r0) ?_; rintro e w3 ⟨g, cap, rfl, hown, hb3⟩; have S3 := mkHid (S2.out.next (re (w := w2) hb3 rfl rfl rfl rfl)); obtain ⟨p0, p1⟩ := cel2 S3.out.b2; obtain ⟨q0, q1, q2, q3⟩ := cel4 S3.out.b1; obtain ⟨z0, z1, z2⟩ := cel3 S3.out.b0; have zf : ∀ j, w3.frozen? ⟨w.heap.size + 1 + 1, j, none⟩ = false := unfrozen S3.out.b0; have HOwn := mkHid hown; clear hown hb3))
        have hg2 := (HOwn.out.lt g rfl).1
        have hg3 : w.heap.size + 3 ≤ w2.heap.size := (Array.getElem?_eq_some_iff.1 S2.out.b0).1
        have HP := mkHid (opost_put (n := l2.length) (q := 0) (r := r) (.slice (some ⟨g, 0, none⟩) l2.length cap) (.int .i64 r) (.int .i64 0) (B := w.heap.size + 1 + 1) (by omega) (.inr ⟨g, rfl, Own.owns HOwn.out⟩) (fun b o s e => by cases e; simp at hg2 hg3 ⊢; omega) S3.out.below rfl (own_cap HOwn.out))
        clear HOwn hg2 hg3 S2
        go_wp2
        refine bodyPost_ret (v := .agg #[.slice (some ⟨g, 0, none⟩) l2.length cap, .int .i64 r, .int .i64 0]) ?_ rfl ?_
        rotate_left
        · exact HP.out
        · simp [results, Try.results59, go_sem, z0, z1, z2]
  · have hki : 0 ≤ (k : Int) := by omega
    obtain rfl : o = ([], 0, 7) := by rw [HO.out, E1.out (by omega)]
    rw [hk]
    clear hk hf hfn E1 E2 E3 HO HBy HIn
    have HP := mkHid (opost_code (q := 7) (.slice none 0 0) (.int .i64 0) (.int .i64 7) (B := w.heap.size + 1 + 1) (by omega) S1.out.below)
    go_wp2
    refine bodyPost_ret (v := .agg #[.slice none 0 0, .int .i64 0, .int .i64 7]) ?_ rfl ?_
    rotate_left
    · exact HP.out
    · simp [results, Try.results59, go_sem, e0, e1, e2]
end Go.Proofs.Ytfckgpmphcadeaa.drv
