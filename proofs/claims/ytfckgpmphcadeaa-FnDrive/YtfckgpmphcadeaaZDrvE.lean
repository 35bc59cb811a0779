/-
  What spec.l08Do answers and leaves where the op is no rename, with the room that the answer's slice has. Conditions: at most 1,048,576 files, which lie in memory, of texts of at most 1,048,576 bytes, in a slice that holds them; the op's texts have at most 1,048,576 bytes.
  What spec.l08Do and spec.DriveDo answer and leave, with the room that the answer's slice has. Conditions: at most 1,048,576 files, which lie in memory, of texts of at most 1,048,576 bytes, in a slice that holds them; the op's texts have at most 1,048,576 bytes.
-/
import Derived.Test.YtfckgpmphcadeaaDrvDs
namespace Go.Proofs.Ytfckgpmphcadeaa.drv
open Go.RowKit Go.Joins Go.Sort
open Go.Proofs.Ytfckgpmphcadeaa.base Go.Proofs.Ytfckgpmphcadeaa.blk Go.Proofs.Ytfckgpmphcadeaa.aid
open Go.Proofs.Ytfckgpmphcadeaa.row (Rd Own OwnV)
open Go.Proofs.Ytfckgpmphcadeaa.rwStored (cs)
set_option linter.unusedVariables false

/-- the block that a slice of files lies in is as long as its capacity says -/
def Room (w : World) (a : Option Addr) (c : Nat) : Prop := (a = none ∧ c = 0) ∨ ∃ g cur, a = some ⟨g, 0, none⟩ ∧ w.heap[g]? = some (.cells cur 39 (0, 0)) ∧ cur.size = c * 3 ∧ c ≤ maxLen
theorem Room.set {w : World} {a : Option Addr} {c : Nat} (h : Room w a c) (z i : Nat) (v : Value) : Room (w.setCell ⟨z, i, none⟩ v) a c := by
  rcases h with h | ⟨g, cur, h1, h2, h3, h4⟩
  · exact .inl h
  · by_cases hz : g = z
    · subst hz
      exact .inr ⟨g, cur.setIfInBounds i v, h1, heap_setCell_same w g i cur _ v h2, by simpa using h3, h4⟩
    · exact .inr ⟨g, cur, h1, (Below.heap_setCell w ⟨z, i, none⟩ v g hz).trans h2, h3, h4⟩
theorem Room.below {w w' : World} {a : Option Addr} {c : Nat} (h : Room w a c) (hb : Below w.heap.size w w') : Room w' a c := by
  rcases h with h | ⟨g, cur, h1, h2, h3, h4⟩
  · exact .inl h
  · exact .inr ⟨g, cur, h1, blk_below h2 hb, h3, h4⟩
theorem Room.alloc {w : World} {a : Option Addr} {c : Nat} (h : Room w a c) (o : Obj) : Room (w.alloc o) a c := h.below (below_alloc1 w o)
theorem Room.of {w : World} {base n c : Nat} {a : Option Addr} {xs : List Value} (h : w.ownsRow base 39 3 (.slice a n c) n xs) : Room w a c := by
  rcases h.2 with ⟨e, _⟩ | ⟨g, cap, cur, e, _, h2, _, h4, h5, _⟩
  · simp at e
    exact .inl ⟨e.1, e.2.2⟩
  · simp at e
    obtain ⟨rfl, rfl⟩ := e
    exact .inr ⟨g, cur, rfl, h2, h5, h4⟩
theorem Room.owns {w : World} {base c : Nat} {a : Option Addr} {l : List File} (h : Room w a c) (ho : OwnV 39 w a (cs l)) (hc : l.length ≤ c) (hb : ∀ b o s, a = some ⟨b, o, s⟩ → base ≤ b) : w.ownsRow base 39 3 (.slice a l.length c) l.length (cs l) := by
  have hl := rwStored.cs_len l
  refine ⟨by omega, ?_⟩
  rcases h with ⟨rfl, rfl⟩ | ⟨g, cur, rfl, h2, h3, h4⟩
  · have : l.length = 0 := by omega
    exact .inl ⟨by rw [this], this⟩
  · refine .inr ⟨g, c, cur, rfl, hb g 0 none rfl, h2, hc, h4, h3, ?_⟩
    rcases ho with h0 | ⟨g', e, ex, ho⟩
    · rw [h0] at hl ⊢
      have : l.length = 0 := by simp at hl; omega
      rw [this]
      simp
    · simp at e
      subst e
      rw [h2] at ho
      simp only [Option.some.injEq, Obj.cells.injEq] at ho
      rw [ho.1]
      show (cs l ++ ex).take (l.length * 3) = cs l
      rw [List.take_append_of_le_length (by omega), List.take_of_length_le (by omega)]
/-- a drive of its own, in a slice with room for what its capacity says, and a code are the answer -/
def OPostR (w : World) (l : List File) (r q : Int) (e : Ending) (w' : World) : Prop :=
  ∃ a c, e = .returned (.agg #[.slice a l.length c, .int .i64 r, .int .i64 q]) ∧ OwnV 39 w' a (cs l) ∧ (∀ b o s, a = some ⟨b, o, s⟩ → w.heap.size ≤ b) ∧ Below w.heap.size w w' ∧ l.length ≤ c ∧ Room w' a c
theorem opostR_put {w w1 : World} {va : Option Addr} {n vc B : Nat} {l : List File} {r q : Int} (x y z : Value) (hB : w.heap.size ≤ B) (ho : OwnV 39 w1 va (cs l)) (hf : ∀ b o s, va = some ⟨b, o, s⟩ → B + 1 ≤ b) (hb : Below w.heap.size w w1) (hn : n = l.length) (hc : n ≤ vc) (hm : Room w1 va vc) :
    OPostR w l r q (.returned (.agg #[.slice va n vc, .int .i64 r, .int .i64 q])) (((w1.setCell ⟨B, 0, none⟩ x).setCell ⟨B, 1, none⟩ y).setCell ⟨B, 2, none⟩ z) := by
  subst hn
  have hne : ∀ b o s, va = some ⟨b, o, s⟩ → b ≠ B := fun b o s e => by have := hf b o s e; omega
  exact ⟨va, vc, rfl, own_off (p := ⟨B, 2, none⟩) (own_off (p := ⟨B, 1, none⟩) (own_off (p := ⟨B, 0, none⟩) ho hne) hne) hne, fun b o s e => by have := hf b o s e; omega, below_three hb hB hb.size _ _ _, hc, ((hm.set _ _ _).set _ _ _).set _ _ _⟩
theorem opostR_code {w w1 : World} {B : Nat} {q : Int} (x y z : Value) (hB : w.heap.size ≤ B) (hb : Below w.heap.size w w1) :
    OPostR w [] 0 q (.returned (.agg #[.slice none 0 0, .int .i64 0, .int .i64 q])) (((w1.setCell ⟨B, 0, none⟩ x).setCell ⟨B, 1, none⟩ y).setCell ⟨B, 2, none⟩ z) :=
  opostR_put (l := []) x y z hB (.inl rfl) (fun b o s e => by simp at e) hb rfl (Nat.le_refl _) (.inl ⟨rfl, rfl⟩)
set_option maxRecDepth 100000 in
set_option maxHeartbeats 4000000 in
theorem doE_w (a : Option Addr) (c : Nat) (l : List File) (r : Int) (n t x : ByteArray) (w : World) (hl : l.length ≤ 1048576) (hs : Small l) (hc : l.length ≤ c) (hx : x.size ≤ 1048576) (hr0 : -9223372036854775808 ≤ r) (hr : Rd w a (cs l)) :
    Calls Try.prog 59 #[.agg #[.slice a l.length c, .int .i64 r], .agg #[.int .i64 1, .string n, .string t, .string x]] w (OPostR w (doR l r 1 n t x).1 (doR l r 1 n t x).2.1 (doR l r 1 n t x).2.2) := by
  have S0 := mkHid (((((mem.startR hr).var (.cells #[.slice a l.length c, .int .i64 r] 25)).var (.cells #[.int .i64 1, .string n, .string t, .string x] 27)).var (.cells #[.slice none 0 0, .int .i64 0, .int .i64 0] 31)))
  have hz : (w.alloc (.cells #[.slice a l.length c, .int .i64 r] 25)).heap.size = w.heap.size + 1 := by simp
  have hz2 : ((w.alloc (.cells #[.slice a l.length c, .int .i64 r] 25)).alloc (.cells #[.int .i64 1, .string n, .string t, .string x] 27)).heap.size = w.heap.size + 1 + 1 := by simp
  rw [hz, hz2] at S0
  have HF := mkHid (find_any a c l r n _ hl S0.out.r0)
  have HBD := mkHid (find_bd l n)
  have HBy := mkHid (fun wx (hq : Rd wx a (cs l)) => bytes_any a c l r wx hl hs hq)
  have HIn := mkHid (fun wx (hq : Rd wx a (cs l)) => inS_any a c l n x 0 wx hl hc hq)
  unfold RPost at HIn
  have hbs := bytes_le l (fun f hf => (hs f hf).2)
  have hb0 := bytes_pos l
  have hxi : (x.size : Int) ≤ 1048576 := by omega
  have E1 : Hid (0 ≤ find l n → doR l r 1 n t x = ([], 0, 7)) := mkHid (fun h => by unfold doR; simp [h])
  have E2 : Hid (find l n = -1 → (60 ≤ l.length ∨ r < bytes l + x.size) → doR l r 1 n t x = ([], 0, 11)) := mkHid (fun h h2 => by unfold doR; simp [h]; omega)
  have E3 : Hid (find l n = -1 → ¬ (60 ≤ l.length ∨ r < bytes l + x.size) → doR l r 1 n t x = (put l (n, x, 0), r, 0)) := mkHid (fun h h2 => by unfold doR; simp [h]; omega)
  obtain ⟨o, ho⟩ : ∃ o, o = doR l r 1 n t x := ⟨_, rfl⟩
  rw [← ho]
  have HO := mkHid ho
  clear hr hs ho
  go_enter Try.func59, Try.ntmps59
  go_wp2_with fail
  refine HF.out.mono ?_
  rintro e w1 ⟨rfl, hb1⟩
  have S1 := mkHid (S0.out.next hb1)
  obtain ⟨e0, e1, e2⟩ := cel3 S1.out.b0
  have ef : ∀ j, w1.frozen? ⟨w.heap.size + 1 + 1, j, none⟩ = false := unfrozen S1.out.b0
  obtain ⟨f0, f1, f2, f3⟩ := cel4 S1.out.b1
  obtain ⟨d0, d1⟩ := cel2 S1.out.b2
  clear hb1 HF S0
  rcases HBD.out with hm | ⟨k, hk, hkl, f, hf, hfn⟩
  · rw [hm]
    by_cases h6 : 60 ≤ l.length
    · obtain rfl : o = ([], 0, 11) := by rw [HO.out, E2.out hm (.inl h6)]
      have h6i : 60 ≤ (l.length : Int) := by omega
      clear hm E1 E2 E3 HO
      go_wp2_with fail
      go_quiet (fail)
      have HP := mkHid (opostR_code (q := 11) (.slice none 0 0) (.int .i64 0) (.int .i64 11) (B := w.heap.size + 1 + 1) (by omega) (below_drewN (n := nq) S1.out.below))
      go_wp2
      refine bodyPost_ret (v := .agg #[.slice none 0 0, .int .i64 0, .int .i64 11]) ?_ rfl ?_
      rotate_left
      · exact HP.out
      · simp [results, Try.results59, go_sem, e0, e1, e2]
    · have h6i : (l.length : Int) < 60 := by omega
      have h6d : (decide (60 ≤ (l.length : Int))) = false := by simp; omega
      go_wp2_with fail
      go_region_held3 (fun w' => w'.cell? ⟨w.heap.size, 0, none⟩ = some (.slice a l.length c) ∧ w'.cell? ⟨w.heap.size, 1, none⟩ = some (.int .i64 r) ∧ w'.cell? ⟨w.heap.size + 1, 3, none⟩ = some (.string x)) (go_keep)
        ((go_at_call 61; refine Calls.mono (HBy.out _ S1.out.r0) ?_; rintro e w2 ⟨rfl, hb2⟩; have S2 := mkHid (S1.out.next (re (w := w1) hb2 rfl rfl rfl rfl)); obtain ⟨p0, p1⟩ := cel2 S2.out.b2; obtain ⟨q0, q1, q2, q3⟩ := cel4 S2.out.b1; clear hb2))
      clear e0 e1 e2 ef f0 f1 f2 f3 d0 d1 p0 p1 q0 q1 q2 q3 S1 HBy
      have hsum : IntKind.i64.wrap (bytes l + (x.size : Int)) = bytes l + (x.size : Int) := by rw [IntKind.wrap_i64]; omega
      by_cases h7 : r < bytes l + (x.size : Int)
      · obtain rfl : o = ([], 0, 11) := by rw [HO.out, E2.out hm (.inr h7)]
        clear hm E1 E2 E3 HO
        obtain ⟨e0, e1, e2⟩ := cel3 S2.out.b0
        have ef : ∀ j, w2.frozen? ⟨w.heap.size + 1 + 1, j, none⟩ = false := unfrozen S2.out.b0
        obtain ⟨f0, f1, f2, f3⟩ := cel4 S2.out.b1
        obtain ⟨d0, d1⟩ := cel2 S2.out.b2
        have HP := mkHid (opostR_code (q := 11) (.slice none 0 0) (.int .i64 0) (.int .i64 11) (B := w.heap.size + 1 + 1) (by omega) S2.out.below)
        go_wp2
        refine bodyPost_ret (v := .agg #[.slice none 0 0, .int .i64 0, .int .i64 11]) ?_ rfl ?_
        rotate_left
        · exact HP.out
        · simp [results, Try.results59, go_sem, e0, e1, e2]
      · obtain rfl : o = (put l (n, x, 0), r, 0) := by rw [HO.out, E3.out hm (by omega)]
        clear hm E1 E2 E3 HO
        obtain ⟨e0, e1, e2⟩ := cel3 S2.out.b0
        have ef : ∀ j, w2.frozen? ⟨w.heap.size + 1 + 1, j, none⟩ = false := unfrozen S2.out.b0
        obtain ⟨f0, f1, f2, f3⟩ := cel4 S2.out.b1
        obtain ⟨d0, d1⟩ := cel2 S2.out.b2
        generalize put l (n, x, 0) = l2 at *
        have hq1 : w.heap.size ≠ w.heap.size + 1 + 1 := by omega
        have hq2 : w.heap.size + 1 + 1 ≠ w.heap.size := by omega
        go_wp2_with fail
        go_region_held3 (fun w' => w'.cell? ⟨w.heap.size, 0, none⟩ = some (.slice a l.length c) ∧ w'.cell? ⟨w.heap.size, 1, none⟩ = some (.int .i64 r) ∧ w'.cell? ⟨w.heap.size + 1, 1, none⟩ = some (.string n) ∧ w'.cell? ⟨w.heap.size + 1, 3, none⟩ = some (.string x)) (go_keep)
          ((go_at_call 105; refine Calls.mono (HIn.out _ S2.out.r0) ?_; rintro e w3 ⟨g, cap, rfl, hown, hb3⟩; have S3 := mkHid (S2.out.next (re (w := w2) hb3 rfl rfl rfl rfl)); obtain ⟨p0, p1⟩ := cel2 S3.out.b2; obtain ⟨q0, q1, q2, q3⟩ := cel4 S3.out.b1; obtain ⟨z0, z1, z2⟩ := cel3 S3.out.b0; have zf : ∀ j, w3.frozen? ⟨w.heap.size + 1 + 1, j, none⟩ = false := unfrozen S3.out.b0; have HOwn := mkHid hown; clear hown hb3))
        have hg2 := (HOwn.out.lt g rfl).1
        have hg3 : w.heap.size + 3 ≤ w2.heap.size := (Array.getElem?_eq_some_iff.1 S2.out.b0).1
        have HP := mkHid (opostR_put (n := l2.length) (q := 0) (r := r) (.slice (some ⟨g, 0, none⟩) l2.length cap) (.int .i64 r) (.int .i64 0) (B := w.heap.size + 1 + 1) (by omega) (.inr ⟨g, rfl, Own.owns HOwn.out⟩) (fun b o s e => by cases e; simp at hg2 hg3 ⊢; omega) S3.out.below rfl (own_cap HOwn.out) (Room.of HOwn.out))
        clear HOwn hg2 hg3 S2
        go_wp2
        refine bodyPost_ret (v := .agg #[.slice (some ⟨g, 0, none⟩) l2.length cap, .int .i64 r, .int .i64 0]) ?_ rfl ?_
        rotate_left
        · exact HP.out
        · simp [results, Try.results59, go_sem, z0, z1, z2]
  · have hki : 0 ≤ (k : Int) := by omega
    obtain rfl : o = ([], 0, 7) := by rw [HO.out, E1.out (by omega)]
    rw [hk]
    clear hk hf hfn E1 E2 E3 HO HBy HIn
    have HP := mkHid (opostR_code (q := 7) (.slice none 0 0) (.int .i64 0) (.int .i64 7) (B := w.heap.size + 1 + 1) (by omega) S1.out.below)
    go_wp2
    refine bodyPost_ret (v := .agg #[.slice none 0 0, .int .i64 0, .int .i64 7]) ?_ rfl ?_
    rotate_left
    · exact HP.out
    · simp [results, Try.results59, go_sem, e0, e1, e2]
set_option maxRecDepth 100000 in
set_option maxHeartbeats 4000000 in
theorem doE_none (a : Option Addr) (c : Nat) (l : List File) (r : Int) (q : Int) (n t x : ByteArray) (w : World) (hl : l.length ≤ 1048576) (hc : l.length ≤ c) (h1 : q ≠ 1) (hm : find l n = -1) (hr : Rd w a (cs l)) :
    Calls Try.prog 59 #[.agg #[.slice a l.length c, .int .i64 r], .agg #[.int .i64 q, .string n, .string t, .string x]] w (OPostR w [] 0 8) := by
  have S0 := mkHid (((((mem.startR hr).var (.cells #[.slice a l.length c, .int .i64 r] 25)).var (.cells #[.int .i64 q, .string n, .string t, .string x] 27)).var (.cells #[.slice none 0 0, .int .i64 0, .int .i64 0] 31)))
  have hz : (w.alloc (.cells #[.slice a l.length c, .int .i64 r] 25)).heap.size = w.heap.size + 1 := by simp
  have hz2 : ((w.alloc (.cells #[.slice a l.length c, .int .i64 r] 25)).alloc (.cells #[.int .i64 q, .string n, .string t, .string x] 27)).heap.size = w.heap.size + 1 + 1 := by simp
  rw [hz, hz2] at S0
  have HF := mkHid (find_any a c l r n _ hl S0.out.r0)
  rw [hm] at HF
  clear hr
  go_enter Try.func59, Try.ntmps59
  go_wp2_with fail
  refine HF.out.mono ?_
  rintro e w1 ⟨rfl, hb1⟩
  have S1 := mkHid (S0.out.next hb1)
  obtain ⟨e0, e1, e2⟩ := cel3 S1.out.b0
  have ef : ∀ j, w1.frozen? ⟨w.heap.size + 1 + 1, j, none⟩ = false := unfrozen S1.out.b0
  obtain ⟨f0, f1, f2, f3⟩ := cel4 S1.out.b1
  obtain ⟨d0, d1⟩ := cel2 S1.out.b2
  clear hb1 HF S0
  have HP := mkHid (opostR_code (q := 8) (.slice none 0 0) (.int .i64 0) (.int .i64 8) (B := w.heap.size + 1 + 1) (by omega) S1.out.below)
  go_wp2
  refine bodyPost_ret (v := .agg #[.slice none 0 0, .int .i64 0, .int .i64 8]) ?_ rfl ?_
  rotate_left
  · exact HP.out
  · simp [results, Try.results59, go_sem, e0, e1, e2]
set_option maxRecDepth 100000 in
set_option maxHeartbeats 4000000 in
theorem doE_sync (a : Option Addr) (c : Nat) (l : List File) (r : Int) (n t x : ByteArray) (w : World) (hl : l.length ≤ 1048576) (hc : l.length ≤ c) (i : Nat) (f : File) (hf : l[i]? = some f) (hk : find l n = (i : Int)) (hs : Small l) (hr : Rd w a (cs l)) :
    Calls Try.prog 59 #[.agg #[.slice a l.length c, .int .i64 r], .agg #[.int .i64 2, .string n, .string t, .string x]] w (OPostR w (l.set i (f.1, f.2.1, (f.2.1.size : Int))) r 0) := by
  have S0 := mkHid (((((mem.startR hr).var (.cells #[.slice a l.length c, .int .i64 r] 25)).var (.cells #[.int .i64 2, .string n, .string t, .string x] 27)).var (.cells #[.slice none 0 0, .int .i64 0, .int .i64 0] 31)))
  have hz : (w.alloc (.cells #[.slice a l.length c, .int .i64 r] 25)).heap.size = w.heap.size + 1 := by simp
  have hz2 : ((w.alloc (.cells #[.slice a l.length c, .int .i64 r] 25)).alloc (.cells #[.int .i64 2, .string n, .string t, .string x] 27)).heap.size = w.heap.size + 1 + 1 := by simp
  rw [hz, hz2] at S0
  have HF := mkHid (find_any a c l r n _ hl S0.out.r0)
  rw [hk] at HF
  have HC := mkHid (fun wx (hx : Rd wx a (cs l)) => copyS_any a c l r wx hl hx)
  unfold CPost at HC
  have hkl : i < l.length := (List.getElem?_eq_some_iff.1 hf).1
  have hkl2 : (i : Int) < (l.length : Int) := by omega
  have hki : ¬ (i : Int) < 0 := by omega
  have HR := mkHid hr
  clear hr hk
  go_enter Try.func59, Try.ntmps59
  go_wp2_with fail
  refine HF.out.mono ?_
  rintro e w1 ⟨rfl, hb1⟩
  have S1 := mkHid (S0.out.next hb1)
  obtain ⟨e0, e1, e2⟩ := cel3 S1.out.b0
  have ef : ∀ j, w1.frozen? ⟨w.heap.size + 1 + 1, j, none⟩ = false := unfrozen S1.out.b0
  obtain ⟨f0, f1, f2, f3⟩ := cel4 S1.out.b1
  obtain ⟨d0, d1⟩ := cel2 S1.out.b2
  clear hb1 HF S0
  obtain ⟨x0, x1, x2⟩ := f
  obtain ⟨ga, oa, rfl, u0, u1, u2, l1⟩ := rwStored.el S1.out.r0 hf
  simp only at u0 u1 u2
  have S2 := mkHid (S1.out.var (.cells #[.string x0, .string x1, .int .i64 x2] 39))
  obtain ⟨d0', d1'⟩ := cel2 S2.out.b3
  go_wp2_with fail
  refine (HC.out _ S2.out.r0).mono ?_
  rintro e w2 ⟨v, rfl, hown, hb2⟩
  obtain ⟨va, vc, rfl, ho, hfr⟩ := mem.own_of hown
  have hcap : l.length ≤ vc := own_cap hown
  have HRm := mkHid (Room.of hown)
  have S3 := mkHid ((S2.out.own hb2 ho hfr).var (.cells #[.slice va l.length vc, .int .i64 r] 25))
  have hw1 : w.heap.size + 3 ≤ w1.heap.size := (Array.getElem?_eq_some_iff.1 S1.out.b0).1
  have HVf : Hid (∀ b o s, va = some ⟨b, o, s⟩ → w1.heap.size + 1 ≤ b) := mkHid (fun b o s e => by have := hfr b o s e; simp at this; omega)
  have hw2 : w1.heap.size + 1 ≤ w2.heap.size := by have := hb2.size; simp at this; omega
  clear e0 e1 e2 ef f0 f1 f2 f3 d0 d1 d0' d1' hb2 ho hown HC hfr u0 u1 u2 l1 S2 S1
  obtain ⟨e0, e1, e2⟩ := cel3 S3.out.b2
  have ef := unfrozen S3.out.b2
  obtain ⟨f0, f1, f2, f3⟩ := cel4 S3.out.b3
  obtain ⟨d0, d1⟩ := cel2 S3.out.b4
  obtain ⟨k0, k1, k2⟩ := cel3 S3.out.b1
  have kf := unfrozen S3.out.b1
  obtain ⟨m0, m1⟩ := cel2 S3.out.b0
  have mf := unfrozen S3.out.b0
  have hx1 := (hs _ (List.mem_of_getElem? hf)).2
  simp only at hx1
  have hx1i : (x1.size : Int) ≤ 1048576 := by omega
  obtain ⟨g, rfl, hOw⟩ := own_some S3.out.o0 (by omega)
  have hne0 : cs l ≠ [] := fun e2 => by have := rwStored.cs_zero e2; rw [this] at hkl; simp at hkl
  have g2 := hOw.cell (rwStored.cs_at _ _ _ hf).2.2
  have gf := hOw.free
  simp only at g2
  have S4 := mkHid (S3.out.mark (grew_cell _ g (i * 3 + 2) (.int .i64 (x1.size : Int))) (fun b e => by cases e; exact ⟨hne0, 0, none, rfl⟩) (.inr ⟨g, rfl, own_sync hOw hf⟩) (fun _ => hne0))
  simp only at S4
  obtain ⟨m0', m1'⟩ := cel2 S4.out.b0
  obtain ⟨e0', e1', e2'⟩ := cel3 S4.out.b2
  have ef' := unfrozen S4.out.b2
  have HP : Hid (OPostR w (l.set i (x0, x1, (x1.size : Int))) r 0 (.returned (.agg #[.slice (some ⟨g, 0, none⟩) l.length vc, .int .i64 r, .int .i64 0])) _) := mkHid (opostR_put (.slice (some ⟨g, 0, none⟩) l.length vc) (.int .i64 r) (.int .i64 0) (B := w.heap.size + 1 + 1) (by omega) S4.out.o0 (fun b o s e => by have := HVf.out b o s e; omega) S4.out.below (by simp) hcap ((HRm.out.alloc _).set _ _ _))
  clear hf hOw hs HR S3 S4
  go_wp2
  refine bodyPost_ret (v := .agg #[.slice (some ⟨g, 0, none⟩) l.length vc, .int .i64 r, .int .i64 0]) ?_ rfl ?_
  rotate_left
  · exact HP.out
  · simp [results, Try.results59, go_sem, e0', e1', e2']
set_option maxRecDepth 100000 in
set_option maxHeartbeats 4000000 in
theorem doE_rem (a : Option Addr) (c : Nat) (l : List File) (r : Int) (q : Int) (n t x : ByteArray) (w : World) (hl : l.length ≤ 1048576) (hc : l.length ≤ c) (h1 : q ≠ 1) (h2 : q ≠ 2) (h3 : q ≠ 3) (i : Nat) (f : File) (hf : l[i]? = some f) (hk : find l n = (i : Int)) (hr : Rd w a (cs l)) :
    Calls Try.prog 59 #[.agg #[.slice a l.length c, .int .i64 r], .agg #[.int .i64 q, .string n, .string t, .string x]] w (OPostR w (out l i) r 0) := by
  have S0 := mkHid (((((mem.startR hr).var (.cells #[.slice a l.length c, .int .i64 r] 25)).var (.cells #[.int .i64 q, .string n, .string t, .string x] 27)).var (.cells #[.slice none 0 0, .int .i64 0, .int .i64 0] 31)))
  have hz : (w.alloc (.cells #[.slice a l.length c, .int .i64 r] 25)).heap.size = w.heap.size + 1 := by simp
  have hz2 : ((w.alloc (.cells #[.slice a l.length c, .int .i64 r] 25)).alloc (.cells #[.int .i64 q, .string n, .string t, .string x] 27)).heap.size = w.heap.size + 1 + 1 := by simp
  rw [hz, hz2] at S0
  have HF := mkHid (find_any a c l r n _ hl S0.out.r0)
  rw [hk] at HF
  have HC := mkHid (fun wx (hx : Rd wx a (cs l)) => copyS_any a c l r wx hl hx)
  unfold CPost at HC
  have hkl : i < l.length := (List.getElem?_eq_some_iff.1 hf).1
  have hkl2 : (i : Int) < (l.length : Int) := by omega
  have hki : ¬ (i : Int) < 0 := by omega
  have HR := mkHid hr
  clear hr hk
  go_enter Try.func59, Try.ntmps59
  go_wp2_with fail
  refine HF.out.mono ?_
  rintro e w1 ⟨rfl, hb1⟩
  have S1 := mkHid (S0.out.next hb1)
  obtain ⟨e0, e1, e2⟩ := cel3 S1.out.b0
  have ef : ∀ j, w1.frozen? ⟨w.heap.size + 1 + 1, j, none⟩ = false := unfrozen S1.out.b0
  obtain ⟨f0, f1, f2, f3⟩ := cel4 S1.out.b1
  obtain ⟨d0, d1⟩ := cel2 S1.out.b2
  clear hb1 HF S0
  obtain ⟨x0, x1, x2⟩ := f
  obtain ⟨ga, oa, rfl, u0, u1, u2, l1⟩ := rwStored.el S1.out.r0 hf
  simp only at u0 u1 u2
  have S2 := mkHid (S1.out.var (.cells #[.string x0, .string x1, .int .i64 x2] 39))
  obtain ⟨d0', d1'⟩ := cel2 S2.out.b3
  go_wp2_with fail
  refine (HC.out _ S2.out.r0).mono ?_
  rintro e w2 ⟨v, rfl, hown, hb2⟩
  obtain ⟨va, vc, rfl, ho, hfr⟩ := mem.own_of hown
  have hcap : l.length ≤ vc := own_cap hown
  have S3 := mkHid ((S2.out.own hb2 ho hfr).var (.cells #[.slice va l.length vc, .int .i64 r] 25))
  have hw1 : w.heap.size + 3 ≤ w1.heap.size := (Array.getElem?_eq_some_iff.1 S1.out.b0).1
  have HVf : Hid (∀ b o s, va = some ⟨b, o, s⟩ → w1.heap.size + 1 ≤ b) := mkHid (fun b o s e => by have := hfr b o s e; simp at this; omega)
  have hw2 : w1.heap.size + 1 ≤ w2.heap.size := by have := hb2.size; simp at this; omega
  clear e0 e1 e2 ef f0 f1 f2 f3 d0 d1 d0' d1' hb2 ho hown HC hfr u0 u1 u2 l1 S2 S1
  obtain ⟨e0, e1, e2⟩ := cel3 S3.out.b2
  have ef := unfrozen S3.out.b2
  obtain ⟨f0, f1, f2, f3⟩ := cel4 S3.out.b3
  obtain ⟨d0, d1⟩ := cel2 S3.out.b4
  obtain ⟨k0, k1, k2⟩ := cel3 S3.out.b1
  have kf := unfrozen S3.out.b1
  obtain ⟨m0, m1⟩ := cel2 S3.out.b0
  have mf := unfrozen S3.out.b0
  have HOu := mkHid (fun wx (hx : Rd wx (some ⟨ga, oa, none⟩) (cs l)) => outS_any (some ⟨ga, oa, none⟩) c l i wx hl hkl hc hx)
  unfold RPost at HOu
  have S3r := S3.out.r0
  generalize out l i = l2 at *
  cases va with
  | none =>
    go_wp2_with fail
    refine (HOu.out _ S3r).mono ?_
    rintro e w3 ⟨g, cap, rfl, hown, hb3⟩
    have S4 := mkHid (S3.out.next hb3)
    have hg := (hown.lt g rfl).1
    have hw3 : w2.heap.size + 1 ≤ g := by simp at hg; omega
    have S5 := mkHid (S4.out.wr 0 (.slice (some ⟨g, 0, none⟩) l2.length cap) (by omega) (fun p hp => by have := (S4.out.pick (bs' := _) (fun _ h => .tail _ h)).b p hp; intro e; simp at hp; rcases hp with rfl | rfl | rfl | rfl <;> simp at e <;> omega) (fun p hp => by simp at hp; subst hp; exact mem.old_off HR.out (by omega)))
    clear e0 e1 e2 ef f0 f1 f2 f3 d0 d1 k0 k1 k2 kf m0 m1 mf hb3
    obtain ⟨m0, m1⟩ := cel2 S4.out.b0
    have mf := unfrozen S4.out.b0
    obtain ⟨e0, e1, e2⟩ := cel3 S5.out.b2
    have ef := unfrozen S5.out.b2
    have hO5 : OwnV 39 (w3.setCell ⟨w2.heap.size, 0, none⟩ (.slice (some ⟨g, 0, none⟩) l2.length cap)) (some ⟨g, 0, none⟩) (cs l2) := own_off (p := ⟨w2.heap.size, 0, none⟩) (.inr ⟨g, rfl, Own.owns hown⟩) (fun b o s e => by cases e; simp; omega)
    have HP := mkHid (opostR_put (n := l2.length) (q := 0) (r := r) (.slice (some ⟨g, 0, none⟩) l2.length cap) (.int .i64 r) (.int .i64 0) (B := w.heap.size + 1 + 1) (by omega) hO5 (fun b o s e => by cases e; omega) S5.out.below rfl (own_cap hown) ((Room.of hown).set _ _ _))
    clear hO5 hown S4 S5 S3 HR
    go_wp2
    refine bodyPost_ret (v := .agg #[.slice (some ⟨g, 0, none⟩) l2.length cap, .int .i64 r, .int .i64 0]) ?_ rfl ?_
    rotate_left
    · exact HP.out
    · simp [results, Try.results59, go_sem, e0, e1, e2]
  | some ad =>
    go_wp2_with fail
    refine (HOu.out _ S3r).mono ?_
    rintro e w3 ⟨g, cap, rfl, hown, hb3⟩
    have S4 := mkHid (S3.out.next hb3)
    have hg := (hown.lt g rfl).1
    have hw3 : w2.heap.size + 1 ≤ g := by simp at hg; omega
    have S5 := mkHid (S4.out.wr 0 (.slice (some ⟨g, 0, none⟩) l2.length cap) (by omega) (fun p hp => by have := (S4.out.pick (bs' := _) (fun _ h => .tail _ h)).b p hp; intro e; simp at hp; rcases hp with rfl | rfl | rfl | rfl <;> simp at e <;> omega) (fun p hp => by simp at hp; subst hp; exact mem.old_off HR.out (by omega)))
    clear e0 e1 e2 ef f0 f1 f2 f3 d0 d1 k0 k1 k2 kf m0 m1 mf hb3
    obtain ⟨m0, m1⟩ := cel2 S4.out.b0
    have mf := unfrozen S4.out.b0
    obtain ⟨e0, e1, e2⟩ := cel3 S5.out.b2
    have ef := unfrozen S5.out.b2
    have hO5 : OwnV 39 (w3.setCell ⟨w2.heap.size, 0, none⟩ (.slice (some ⟨g, 0, none⟩) l2.length cap)) (some ⟨g, 0, none⟩) (cs l2) := own_off (p := ⟨w2.heap.size, 0, none⟩) (.inr ⟨g, rfl, Own.owns hown⟩) (fun b o s e => by cases e; simp; omega)
    have HP := mkHid (opostR_put (n := l2.length) (q := 0) (r := r) (.slice (some ⟨g, 0, none⟩) l2.length cap) (.int .i64 r) (.int .i64 0) (B := w.heap.size + 1 + 1) (by omega) hO5 (fun b o s e => by cases e; omega) S5.out.below rfl (own_cap hown) ((Room.of hown).set _ _ _))
    clear hO5 hown S4 S5 S3 HR
    go_wp2
    refine bodyPost_ret (v := .agg #[.slice (some ⟨g, 0, none⟩) l2.length cap, .int .i64 r, .int .i64 0]) ?_ rfl ?_
    rotate_left
    · exact HP.out
    · simp [results, Try.results59, go_sem, e0, e1, e2]
end Go.Proofs.Ytfckgpmphcadeaa.drv
namespace Go.Proofs.Ytfckgpmphcadeaa.drv
open Go.RowKit Go.Joins Go.Sort
open Go.Proofs.Ytfckgpmphcadeaa.base Go.Proofs.Ytfckgpmphcadeaa.blk Go.Proofs.Ytfckgpmphcadeaa.aid
open Go.Proofs.Ytfckgpmphcadeaa.row (Rd Own OwnV)
open Go.Proofs.Ytfckgpmphcadeaa.rwStored (cs)
set_option linter.unusedVariables false

set_option maxRecDepth 100000 in
set_option maxHeartbeats 4000000 in
theorem doE_same (a : Option Addr) (c : Nat) (l : List File) (r : Int) (n t x : ByteArray) (w : World) (hl : l.length ≤ 1048576) (hc : l.length ≤ c) (i : Nat) (f : File) (hf : l[i]? = some f) (hk : find l n = (i : Int)) (hn : t = n) (hr : Rd w a (cs l)) :
    Calls Try.prog 59 #[.agg #[.slice a l.length c, .int .i64 r], .agg #[.int .i64 3, .string n, .string t, .string x]] w (OPostR w l r 0) := by
  subst hn
  have S0 := mkHid (((((mem.startR hr).var (.cells #[.slice a l.length c, .int .i64 r] 25)).var (.cells #[.int .i64 3, .string t, .string t, .string x] 27)).var (.cells #[.slice none 0 0, .int .i64 0, .int .i64 0] 31)))
  have hz : (w.alloc (.cells #[.slice a l.length c, .int .i64 r] 25)).heap.size = w.heap.size + 1 := by simp
  have hz2 : ((w.alloc (.cells #[.slice a l.length c, .int .i64 r] 25)).alloc (.cells #[.int .i64 3, .string t, .string t, .string x] 27)).heap.size = w.heap.size + 1 + 1 := by simp
  rw [hz, hz2] at S0
  have HF := mkHid (find_any a c l r t _ hl S0.out.r0)
  rw [hk] at HF
  have HC := mkHid (fun wx (hx : Rd wx a (cs l)) => copyS_any a c l r wx hl hx)
  unfold CPost at HC
  have hkl : i < l.length := (List.getElem?_eq_some_iff.1 hf).1
  have hkl2 : (i : Int) < (l.length : Int) := by omega
  have hki : ¬ (i : Int) < 0 := by omega
  have HR := mkHid hr
  clear hr hk
  go_enter Try.func59, Try.ntmps59
  go_wp2_with fail
  refine HF.out.mono ?_
  rintro e w1 ⟨rfl, hb1⟩
  have S1 := mkHid (S0.out.next hb1)
  obtain ⟨e0, e1, e2⟩ := cel3 S1.out.b0
  have ef : ∀ j, w1.frozen? ⟨w.heap.size + 1 + 1, j, none⟩ = false := unfrozen S1.out.b0
  obtain ⟨f0, f1, f2, f3⟩ := cel4 S1.out.b1
  obtain ⟨d0, d1⟩ := cel2 S1.out.b2
  clear hb1 HF S0
  obtain ⟨x0, x1, x2⟩ := f
  obtain ⟨ga, oa, rfl, u0, u1, u2, l1⟩ := rwStored.el S1.out.r0 hf
  simp only at u0 u1 u2
  have S2 := mkHid (S1.out.var (.cells #[.string x0, .string x1, .int .i64 x2] 39))
  obtain ⟨d0', d1'⟩ := cel2 S2.out.b3
  go_wp2_with fail
  refine (HC.out _ S2.out.r0).mono ?_
  rintro e w2 ⟨v, rfl, hown, hb2⟩
  obtain ⟨va, vc, rfl, ho, hfr⟩ := mem.own_of hown
  have hcap : l.length ≤ vc := own_cap hown
  have HRm := mkHid (Room.of hown)
  have S3 := mkHid ((S2.out.own hb2 ho hfr).var (.cells #[.slice va l.length vc, .int .i64 r] 25))
  have hw1 : w.heap.size + 3 ≤ w1.heap.size := (Array.getElem?_eq_some_iff.1 S1.out.b0).1
  have HVf : Hid (∀ b o s, va = some ⟨b, o, s⟩ → w1.heap.size + 1 ≤ b) := mkHid (fun b o s e => by have := hfr b o s e; simp at this; omega)
  have hw2 : w1.heap.size + 1 ≤ w2.heap.size := by have := hb2.size; simp at this; omega
  clear e0 e1 e2 ef f0 f1 f2 f3 d0 d1 d0' d1' hb2 ho hown HC hfr u0 u1 u2 l1 S2 S1
  obtain ⟨e0, e1, e2⟩ := cel3 S3.out.b2
  have ef := unfrozen S3.out.b2
  obtain ⟨f0, f1, f2, f3⟩ := cel4 S3.out.b3
  obtain ⟨d0, d1⟩ := cel2 S3.out.b4
  obtain ⟨k0, k1, k2⟩ := cel3 S3.out.b1
  have kf := unfrozen S3.out.b1
  obtain ⟨m0, m1⟩ := cel2 S3.out.b0
  have mf := unfrozen S3.out.b0
  clear hf
  cases va with
  | none =>
    have S4 := mkHid ((S3.out.pick (bs' := [(w1.heap.size, .cells #[.string x0, .string x1, .int .i64 x2] 39), (w2.heap.size, .cells #[.slice none l.length vc, .int .i64 r] 25), (w.heap.size + 1 + 1, .cells #[.slice none 0 0, .int .i64 0, .int .i64 0] 31), (w.heap.size + 1, .cells #[.int .i64 3, .string t, .string t, .string x] 27), (w.heap.size, .cells #[.slice (some ⟨ga, oa, none⟩) l.length c, .int .i64 r] 25)]) (by intro p hp; simp at hp ⊢; rcases hp with rfl | rfl | rfl | rfl | rfl <;> simp)).wr 0 (.string t) (by omega) (fun p hp => by intro e; simp at hp; rcases hp with rfl | rfl | rfl | rfl <;> simp at e <;> omega) (fun p hp => by simp at hp; subst hp; exact mem.old_off HR.out (by omega)))
    simp only [List.setIfInBounds_toArray, List.set_cons_zero] at S4

    obtain ⟨m0', m1'⟩ := cel2 S4.out.b1
    obtain ⟨e0', e1', e2'⟩ := cel3 S4.out.b2
    have ef' := unfrozen S4.out.b2
    have HP := mkHid (opostR_put (n := l.length) (q := 0) (r := r) (.slice none l.length vc) (.int .i64 r) (.int .i64 0) (B := w.heap.size + 1 + 1) (by omega) S4.out.o0 (fun b o s e => by have := HVf.out b o s e; omega) S4.out.below rfl hcap ((HRm.out.alloc _).set _ _ _))
    clear S4 S3 HR HVf
    go_wp2
    refine bodyPost_ret (v := .agg #[.slice none l.length vc, .int .i64 r, .int .i64 0]) ?_ rfl ?_
    rotate_left
    · exact HP.out
    · simp [results, Try.results59, go_sem, e0', e1', e2']
  | some ad =>
    have S4 := mkHid ((S3.out.pick (bs' := [(w1.heap.size, .cells #[.string x0, .string x1, .int .i64 x2] 39), (w2.heap.size, .cells #[.slice (some ad) l.length vc, .int .i64 r] 25), (w.heap.size + 1 + 1, .cells #[.slice none 0 0, .int .i64 0, .int .i64 0] 31), (w.heap.size + 1, .cells #[.int .i64 3, .string t, .string t, .string x] 27), (w.heap.size, .cells #[.slice (some ⟨ga, oa, none⟩) l.length c, .int .i64 r] 25)]) (by intro p hp; simp at hp ⊢; rcases hp with rfl | rfl | rfl | rfl | rfl <;> simp)).wr 0 (.string t) (by omega) (fun p hp => by intro e; simp at hp; rcases hp with rfl | rfl | rfl | rfl <;> simp at e <;> omega) (fun p hp => by simp at hp; subst hp; exact mem.old_off HR.out (by omega)))
    simp only [List.setIfInBounds_toArray, List.set_cons_zero] at S4

    obtain ⟨m0', m1'⟩ := cel2 S4.out.b1
    obtain ⟨e0', e1', e2'⟩ := cel3 S4.out.b2
    have ef' := unfrozen S4.out.b2
    have HP := mkHid (opostR_put (n := l.length) (q := 0) (r := r) (.slice (some ad) l.length vc) (.int .i64 r) (.int .i64 0) (B := w.heap.size + 1 + 1) (by omega) S4.out.o0 (fun b o s e => by have := HVf.out b o s e; omega) S4.out.below rfl hcap ((HRm.out.alloc _).set _ _ _))
    clear S4 S3 HR HVf
    go_wp2
    refine bodyPost_ret (v := .agg #[.slice (some ad) l.length vc, .int .i64 r, .int .i64 0]) ?_ rfl ?_
    rotate_left
    · exact HP.out
    · simp [results, Try.results59, go_sem, e0', e1', e2']
set_option maxRecDepth 100000 in
set_option maxHeartbeats 4000000 in
theorem doE_ren (a : Option Addr) (c : Nat) (l : List File) (r : Int) (n t x : ByteArray) (w : World) (hl : l.length ≤ 1048576) (hc : l.length ≤ c) (i : Nat) (f : File) (hf : l[i]? = some f) (hk : find l n = (i : Int)) (hn : t ≠ n) (hr : Rd w a (cs l)) :
    Calls Try.prog 59 #[.agg #[.slice a l.length c, .int .i64 r], .agg #[.int .i64 3, .string n, .string t, .string x]] w (OPostR w (put (out l i) (t, f.2.1, f.2.2)) r 0) := by
  have S0 := mkHid (((((mem.startR hr).var (.cells #[.slice a l.length c, .int .i64 r] 25)).var (.cells #[.int .i64 3, .string n, .string t, .string x] 27)).var (.cells #[.slice none 0 0, .int .i64 0, .int .i64 0] 31)))
  have hz : (w.alloc (.cells #[.slice a l.length c, .int .i64 r] 25)).heap.size = w.heap.size + 1 := by simp
  have hz2 : ((w.alloc (.cells #[.slice a l.length c, .int .i64 r] 25)).alloc (.cells #[.int .i64 3, .string n, .string t, .string x] 27)).heap.size = w.heap.size + 1 + 1 := by simp
  rw [hz, hz2] at S0
  have HF := mkHid (find_any a c l r n _ hl S0.out.r0)
  rw [hk] at HF
  have HC := mkHid (fun wx (hx : Rd wx a (cs l)) => copyS_any a c l r wx hl hx)
  unfold CPost at HC
  have hkl : i < l.length := (List.getElem?_eq_some_iff.1 hf).1
  have hkl2 : (i : Int) < (l.length : Int) := by omega
  have hki : ¬ (i : Int) < 0 := by omega
  have HR := mkHid hr
  clear hr hk
  go_enter Try.func59, Try.ntmps59
  go_wp2_with fail
  refine HF.out.mono ?_
  rintro e w1 ⟨rfl, hb1⟩
  have S1 := mkHid (S0.out.next hb1)
  obtain ⟨e0, e1, e2⟩ := cel3 S1.out.b0
  have ef : ∀ j, w1.frozen? ⟨w.heap.size + 1 + 1, j, none⟩ = false := unfrozen S1.out.b0
  obtain ⟨f0, f1, f2, f3⟩ := cel4 S1.out.b1
  obtain ⟨d0, d1⟩ := cel2 S1.out.b2
  clear hb1 HF S0
  obtain ⟨x0, x1, x2⟩ := f
  obtain ⟨ga, oa, rfl, u0, u1, u2, l1⟩ := rwStored.el S1.out.r0 hf
  simp only at u0 u1 u2
  have S2 := mkHid (S1.out.var (.cells #[.string x0, .string x1, .int .i64 x2] 39))
  obtain ⟨d0', d1'⟩ := cel2 S2.out.b3
  go_wp2_with fail
  refine (HC.out _ S2.out.r0).mono ?_
  rintro e w2 ⟨v, rfl, hown, hb2⟩
  obtain ⟨va, vc, rfl, ho, hfr⟩ := mem.own_of hown
  have hcap : l.length ≤ vc := own_cap hown
  have S3 := mkHid ((S2.out.own hb2 ho hfr).var (.cells #[.slice va l.length vc, .int .i64 r] 25))
  have hw1 : w.heap.size + 3 ≤ w1.heap.size := (Array.getElem?_eq_some_iff.1 S1.out.b0).1
  have HVf : Hid (∀ b o s, va = some ⟨b, o, s⟩ → w1.heap.size + 1 ≤ b) := mkHid (fun b o s e => by have := hfr b o s e; simp at this; omega)
  have hw2 : w1.heap.size + 1 ≤ w2.heap.size := by have := hb2.size; simp at this; omega
  clear e0 e1 e2 ef f0 f1 f2 f3 d0 d1 d0' d1' hb2 ho hown HC hfr u0 u1 u2 l1 S2 S1
  obtain ⟨e0, e1, e2⟩ := cel3 S3.out.b2
  have ef := unfrozen S3.out.b2
  obtain ⟨f0, f1, f2, f3⟩ := cel4 S3.out.b3
  obtain ⟨d0, d1⟩ := cel2 S3.out.b4
  obtain ⟨k0, k1, k2⟩ := cel3 S3.out.b1
  have kf := unfrozen S3.out.b1
  obtain ⟨m0, m1⟩ := cel2 S3.out.b0
  have mf := unfrozen S3.out.b0
  have heq := bytes_ne hn
  have heq2 : (!(t.toList == n.toList)) = true := by rw [heq]; rfl
  clear hf
  have HOu := mkHid (fun wx (hx : Rd wx (some ⟨ga, oa, none⟩) (cs l)) => outS_any (some ⟨ga, oa, none⟩) c l i wx hl hkl hc hx)
  unfold RPost at HOu
  have hol : (out l i).length ≤ 1048576 := by have := (out_len hkl).2.2; omega
  simp only
  generalize out l i = l2 at *
  have HIn := mkHid (fun g cap wx (hc2 : l2.length ≤ cap) (hx : Rd wx (some ⟨g, 0, none⟩) (cs l2)) => inS_any (some ⟨g, 0, none⟩) cap l2 t x1 x2 wx hol hc2 hx)
  unfold RPost at HIn
  generalize put l2 (t, x1, x2) = l3 at *
  cases va with
  | none =>
    have S4 := mkHid ((S3.out.pick (bs' := [(w1.heap.size, .cells #[.string x0, .string x1, .int .i64 x2] 39), (w2.heap.size, .cells #[.slice none l.length vc, .int .i64 r] 25), (w.heap.size + 1 + 1, .cells #[.slice none 0 0, .int .i64 0, .int .i64 0] 31), (w.heap.size + 1, .cells #[.int .i64 3, .string n, .string t, .string x] 27), (w.heap.size, .cells #[.slice (some ⟨ga, oa, none⟩) l.length c, .int .i64 r] 25)]) (by intro p hp; simp at hp ⊢; rcases hp with rfl | rfl | rfl | rfl | rfl <;> simp)).wr 0 (.string t) (by omega) (fun p hp => by intro e; simp at hp; rcases hp with rfl | rfl | rfl | rfl <;> simp at e <;> omega) (fun p hp => by simp at hp; subst hp; exact mem.old_off HR.out (by omega)))
    simp only [List.setIfInBounds_toArray, List.set_cons_zero] at S4

    have S4r := S4.out.r0
    obtain ⟨m0', m1'⟩ := cel2 S4.out.b1
    have mf' := unfrozen S4.out.b1
    obtain ⟨k0', k1', k2'⟩ := cel3 S4.out.b0
    obtain ⟨d0', d1'⟩ := cel2 S4.out.b4
    obtain ⟨f0', f1', f2', f3'⟩ := cel4 S4.out.b3
    have hS4 : (w2.alloc (.cells #[.slice none l.length vc, .int .i64 r] 25)).heap.size = w2.heap.size + 1 := by simp
    generalize hW : (w2.alloc (.cells #[.slice none l.length vc, .int .i64 r] 25)) = wA at *
    go_wp2_with fail
    generalize hV : wA.setCell ⟨w1.heap.size, 0, none⟩ (.string t) = wB at *
    have hsB : wB.heap.size = w2.heap.size + 1 := by rw [← hV]; simp; exact hS4
    clear e0 e1 e2 ef f0 f1 f2 f3 d0 d1 k0 k1 k2 kf m0 m1 mf hV S3
    have v1 : w2.heap.size ≠ w.heap.size := by omega
    have v2 : w.heap.size ≠ w2.heap.size := by omega
    have v3 : w2.heap.size ≠ w1.heap.size := by omega
    have v4 : w1.heap.size ≠ w2.heap.size := by omega
    go_region_held3 (fun w' => w'.cell? ⟨w.heap.size, 0, none⟩ = some (.slice (some ⟨ga, oa, none⟩) l.length c) ∧ w'.cell? ⟨w1.heap.size, 0, none⟩ = some (.string t) ∧ w'.cell? ⟨w1.heap.size, 1, none⟩ = some (.string x1) ∧ w'.cell? ⟨w1.heap.size, 2, none⟩ = some (.int .i64 x2)) (go_keep)
      (first
       | (go_at_call 107; refine Calls.mono (HOu.out _ S4r) ?_; rintro e w3 ⟨g, cap, rfl, hown, hb3⟩; have S5 := mkHid (S4.out.row (re (w := wB) hb3 rfl rfl rfl rfl) (Own.owns hown).rd (fun b o s e => by cases e; exact (hown.lt g rfl).1)); have hgc := own_cap hown; obtain ⟨p0, p1⟩ := cel2 S5.out.b4; obtain ⟨q0, q1, q2⟩ := cel3 S5.out.b0; clear hb3 hown)
       | (go_at_call 105; refine Calls.mono (HIn.out _ _ _ hgc S5.out.r0) ?_; rintro e w4 ⟨g4, cap4, rfl, hown, hb4⟩; have S6 := mkHid (S5.out.next (re (w := w3) hb4 rfl rfl rfl rfl)); obtain ⟨s0, s1⟩ := cel2 S6.out.b4; obtain ⟨t0, t1, t2⟩ := cel3 S6.out.b0; obtain ⟨u0, u1⟩ := cel2 S6.out.b1; have uf := unfrozen S6.out.b1; have HOwn := mkHid hown; clear hb4 hown))
    have hg1 := (HOwn.out.lt g4 rfl).1
    have hg0 : wB.heap.size ≤ w3.heap.size := by have := S5.out.below.size; have h9 := (Array.getElem?_eq_some_iff.1 S5.out.b1).1; omega
    have hg2 : w2.heap.size + 1 ≤ g4 := by omega
    have hO5 : OwnV 39 (w4.setCell ⟨w2.heap.size, 0, none⟩ (.slice (some ⟨g4, 0, none⟩) l3.length cap4)) (some ⟨g4, 0, none⟩) (cs l3) := own_off (p := ⟨w2.heap.size, 0, none⟩) (.inr ⟨g4, rfl, Own.owns HOwn.out⟩) (fun b o s e => by cases e; simp; omega)
    have HP := mkHid (opostR_put (n := l3.length) (q := 0) (r := r) (.slice (some ⟨g4, 0, none⟩) l3.length cap4) (.int .i64 r) (.int .i64 0) (B := w.heap.size + 1 + 1) (by omega) hO5 (fun b o s e => by cases e; omega) (S6.out.below.setCell (p := ⟨w2.heap.size, 0, none⟩) (by simp; omega) _) rfl (own_cap HOwn.out) ((Room.of HOwn.out).set _ _ _))
    obtain ⟨z0, z1, z2⟩ := cel3 (blk_set S6.out.b2 ⟨w2.heap.size, 0, none⟩ (.slice (some ⟨g4, 0, none⟩) l3.length cap4) (by simp; omega))
    have zf := unfrozen (blk_set S6.out.b2 ⟨w2.heap.size, 0, none⟩ (.slice (some ⟨g4, 0, none⟩) l3.length cap4) (by simp; omega))
    clear hO5 HOwn S4 S5 S6 HR hg1
    go_wp2
    refine bodyPost_ret (v := .agg #[.slice (some ⟨g4, 0, none⟩) l3.length cap4, .int .i64 r, .int .i64 0]) ?_ rfl ?_
    rotate_left
    · exact HP.out
    · simp [results, Try.results59, go_sem, z0, z1, z2]
  | some ad =>
    have S4 := mkHid ((S3.out.pick (bs' := [(w1.heap.size, .cells #[.string x0, .string x1, .int .i64 x2] 39), (w2.heap.size, .cells #[.slice (some ad) l.length vc, .int .i64 r] 25), (w.heap.size + 1 + 1, .cells #[.slice none 0 0, .int .i64 0, .int .i64 0] 31), (w.heap.size + 1, .cells #[.int .i64 3, .string n, .string t, .string x] 27), (w.heap.size, .cells #[.slice (some ⟨ga, oa, none⟩) l.length c, .int .i64 r] 25)]) (by intro p hp; simp at hp ⊢; rcases hp with rfl | rfl | rfl | rfl | rfl <;> simp)).wr 0 (.string t) (by omega) (fun p hp => by intro e; simp at hp; rcases hp with rfl | rfl | rfl | rfl <;> simp at e <;> omega) (fun p hp => by simp at hp; subst hp; exact mem.old_off HR.out (by omega)))
    simp only [List.setIfInBounds_toArray, List.set_cons_zero] at S4

    have S4r := S4.out.r0
    obtain ⟨m0', m1'⟩ := cel2 S4.out.b1
    have mf' := unfrozen S4.out.b1
    obtain ⟨k0', k1', k2'⟩ := cel3 S4.out.b0
    obtain ⟨d0', d1'⟩ := cel2 S4.out.b4
    obtain ⟨f0', f1', f2', f3'⟩ := cel4 S4.out.b3
    have hS4 : (w2.alloc (.cells #[.slice (some ad) l.length vc, .int .i64 r] 25)).heap.size = w2.heap.size + 1 := by simp
    generalize hW : (w2.alloc (.cells #[.slice (some ad) l.length vc, .int .i64 r] 25)) = wA at *
    go_wp2_with fail
    generalize hV : wA.setCell ⟨w1.heap.size, 0, none⟩ (.string t) = wB at *
    have hsB : wB.heap.size = w2.heap.size + 1 := by rw [← hV]; simp; exact hS4
    clear e0 e1 e2 ef f0 f1 f2 f3 d0 d1 k0 k1 k2 kf m0 m1 mf hV S3
    have v1 : w2.heap.size ≠ w.heap.size := by omega
    have v2 : w.heap.size ≠ w2.heap.size := by omega
    have v3 : w2.heap.size ≠ w1.heap.size := by omega
    have v4 : w1.heap.size ≠ w2.heap.size := by omega
    go_region_held3 (fun w' => w'.cell? ⟨w.heap.size, 0, none⟩ = some (.slice (some ⟨ga, oa, none⟩) l.length c) ∧ w'.cell? ⟨w1.heap.size, 0, none⟩ = some (.string t) ∧ w'.cell? ⟨w1.heap.size, 1, none⟩ = some (.string x1) ∧ w'.cell? ⟨w1.heap.size, 2, none⟩ = some (.int .i64 x2)) (go_keep)
      (first
       | (go_at_call 107; refine Calls.mono (HOu.out _ S4r) ?_; rintro e w3 ⟨g, cap, rfl, hown, hb3⟩; have S5 := mkHid (S4.out.row (re (w := wB) hb3 rfl rfl rfl rfl) (Own.owns hown).rd (fun b o s e => by cases e; exact (hown.lt g rfl).1)); have hgc := own_cap hown; obtain ⟨p0, p1⟩ := cel2 S5.out.b4; obtain ⟨q0, q1, q2⟩ := cel3 S5.out.b0; clear hb3 hown)
       | (go_at_call 105; refine Calls.mono (HIn.out _ _ _ hgc S5.out.r0) ?_; rintro e w4 ⟨g4, cap4, rfl, hown, hb4⟩; have S6 := mkHid (S5.out.next (re (w := w3) hb4 rfl rfl rfl rfl)); obtain ⟨s0, s1⟩ := cel2 S6.out.b4; obtain ⟨t0, t1, t2⟩ := cel3 S6.out.b0; obtain ⟨u0, u1⟩ := cel2 S6.out.b1; have uf := unfrozen S6.out.b1; have HOwn := mkHid hown; clear hb4 hown))
    have hg1 := (HOwn.out.lt g4 rfl).1
    have hg0 : wB.heap.size ≤ w3.heap.size := by have := S5.out.below.size; have h9 := (Array.getElem?_eq_some_iff.1 S5.out.b1).1; omega
    have hg2 : w2.heap.size + 1 ≤ g4 := by omega
    have hO5 : OwnV 39 (w4.setCell ⟨w2.heap.size, 0, none⟩ (.slice (some ⟨g4, 0, none⟩) l3.length cap4)) (some ⟨g4, 0, none⟩) (cs l3) := own_off (p := ⟨w2.heap.size, 0, none⟩) (.inr ⟨g4, rfl, Own.owns HOwn.out⟩) (fun b o s e => by cases e; simp; omega)
    have HP := mkHid (opostR_put (n := l3.length) (q := 0) (r := r) (.slice (some ⟨g4, 0, none⟩) l3.length cap4) (.int .i64 r) (.int .i64 0) (B := w.heap.size + 1 + 1) (by omega) hO5 (fun b o s e => by cases e; omega) (S6.out.below.setCell (p := ⟨w2.heap.size, 0, none⟩) (by simp; omega) _) rfl (own_cap HOwn.out) ((Room.of HOwn.out).set _ _ _))
    obtain ⟨z0, z1, z2⟩ := cel3 (blk_set S6.out.b2 ⟨w2.heap.size, 0, none⟩ (.slice (some ⟨g4, 0, none⟩) l3.length cap4) (by simp; omega))
    have zf := unfrozen (blk_set S6.out.b2 ⟨w2.heap.size, 0, none⟩ (.slice (some ⟨g4, 0, none⟩) l3.length cap4) (by simp; omega))
    clear hO5 HOwn S4 S5 S6 HR hg1
    go_wp2
    refine bodyPost_ret (v := .agg #[.slice (some ⟨g4, 0, none⟩) l3.length cap4, .int .i64 r, .int .i64 0]) ?_ rfl ?_
    rotate_left
    · exact HP.out
    · simp [results, Try.results59, go_sem, z0, z1, z2]
theorem doE_all (a : Option Addr) (c : Nat) (l : List File) (r : Int) (q : Int) (n t x : ByteArray) (w : World) (hl : l.length ≤ 1048576) (hs : Small l) (hc : l.length ≤ c) (hx : x.size ≤ 1048576) (hr0 : 0 ≤ r) (hr : Rd w a (cs l)) :
    Calls Try.prog 59 #[.agg #[.slice a l.length c, .int .i64 r], .agg #[.int .i64 q, .string n, .string t, .string x]] w (OPostR w (doR l r q n t x).1 (doR l r q n t x).2.1 (doR l r q n t x).2.2) := by
  by_cases h1 : q = 1
  · subst h1
    exact doE_w a c l r n t x w hl hs hc hx (by omega) hr
  rcases find_bd l n with hm | ⟨i, hk, hkl, f, hf, hfn⟩
  · have e : doR l r q n t x = ([], 0, 8) := by unfold doR; simp [h1, hm]
    rw [e]
    exact doE_none a c l r q n t x w hl hc h1 hm hr
  · have hi : (find l n).toNat = i := by omega
    have hn0 : ¬ find l n < 0 := by omega
    by_cases h2 : q = 2
    · subst h2
      have e : doR l r 2 n t x = (l.set i (f.1, f.2.1, (f.2.1.size : Int)), r, 0) := by unfold doR; simp [hn0, hi, hf]
      rw [e]
      exact doE_sync a c l r n t x w hl hc i f hf hk hs hr
    by_cases h3 : q = 3
    · subst h3
      by_cases h4 : t = n
      · have e : doR l r 3 n t x = (l, r, 0) := by unfold doR; simp [hn0, hi, hf, h4]
        rw [e]
        exact doE_same a c l r n t x w hl hc i f hf hk h4 hr
      · have e : doR l r 3 n t x = (put (out l i) (t, f.2.1, f.2.2), r, 0) := by unfold doR; simp [hn0, hi, hf, h4]
        rw [e]
        exact doE_ren a c l r n t x w hl hc i f hf hk h4 hr
    have e : doR l r q n t x = (out l i, r, 0) := by unfold doR; simp [hn0, hi, hf, h1, h2, h3]
    rw [e]
    exact doE_rem a c l r q n t x w hl hc h1 h2 h3 i f hf hk hr

set_option maxRecDepth 100000 in
set_option maxHeartbeats 4000000 in
theorem driveDoE_any (a : Option Addr) (c : Nat) (l : List File) (r : Int) (q : Int) (n t x : ByteArray) (w : World) (hl : l.length ≤ 1048576) (hs : Small l) (hc : l.length ≤ c) (hn : n.size ≤ 1048576) (ht : t.size ≤ 1048576) (hx : x.size ≤ 1048576) (hr : Rd w a (cs l)) :
    Calls Try.prog 12 #[.agg #[.slice a l.length c, .int .i64 r], .agg #[.int .i64 q, .string n, .string t, .string x]] w (OPostR w (doT l r q n t x).1 (doT l r q n t x).2.1 (doT l r q n t x).2.2) := by
  have S0 := mkHid (((((mem.startR hr).var (.cells #[.slice a l.length c, .int .i64 r] 25)).var (.cells #[.int .i64 q, .string n, .string t, .string x] 27)).var (.cells #[.slice none 0 0, .int .i64 0, .int .i64 0] 31)))
  have hz : (w.alloc (.cells #[.slice a l.length c, .int .i64 r] 25)).heap.size = w.heap.size + 1 := by simp
  have hz2 : ((w.alloc (.cells #[.slice a l.length c, .int .i64 r] 25)).alloc (.cells #[.int .i64 q, .string n, .string t, .string x] 27)).heap.size = w.heap.size + 1 + 1 := by simp
  rw [hz, hz2] at S0
  have HR := mkHid (right_any a c l r _ hl hs S0.out.r0)
  have HOp := mkHid (fun wx => op_any q n t x wx hn ht hx)
  have HD := mkHid (fun h0 wx (hq : Rd wx a (cs l)) => doE_all a c l r q n t x wx hl hs hc hx h0 hq)
  have hr0 := mkHid (fun (h : driveB l r = true) => (driveB_parts h).2.1)
  clear hr hs hz hz2
  cases hd : driveB l r with
  | false =>
    have E : doT l r q n t x = ([], 0, 1) := by unfold doT; rw [hd]; rfl
    rw [E]
    rw [hd] at HR
    go_enter Try.func12, Try.ntmps12
    go_wp2_with fail
    refine HR.out.mono ?_
    rintro e w1 ⟨rfl, hb1⟩
    have S1 := mkHid (S0.out.next hb1)
    obtain ⟨e0, e1, e2⟩ := cel3 S1.out.b0
    have ef := unfrozen S1.out.b0
    have HP := mkHid (opostR_code (q := 1) (.slice none 0 0) (.int .i64 0) (.int .i64 1) (B := w.heap.size + 1 + 1) (by omega) S1.out.below)
    clear hb1 HR S0
    go_wp2
    refine bodyPost_ret (v := .agg #[.slice none 0 0, .int .i64 0, .int .i64 1]) ?_ rfl ?_
    rotate_left
    · exact HP.out
    · simp [results, Try.results12, go_sem, e0, e1, e2]
  | true =>
    rw [hd] at HR
    have hr0 := hr0.out hd
    cases ho : opB q n t x with
    | false =>
      have E : doT l r q n t x = ([], 0, 1) := by unfold doT; rw [hd, ho]; rfl
      rw [E]
      rw [ho] at HOp
      go_enter Try.func12, Try.ntmps12
      go_wp2_with fail
      refine HR.out.mono ?_
      rintro e w1 ⟨rfl, hb1⟩
      have S1 := mkHid (S0.out.next hb1)
      obtain ⟨f0, f1, f2, f3⟩ := cel4 S1.out.b1
      clear hb1 HR S0
      go_wp2_with fail
      refine (HOp.out _).mono ?_
      rintro e w2 ⟨rfl, hb2⟩
      have S2 := mkHid (S1.out.next hb2)
      obtain ⟨e0, e1, e2⟩ := cel3 S2.out.b0
      have ef := unfrozen S2.out.b0
      have HP := mkHid (opostR_code (q := 1) (.slice none 0 0) (.int .i64 0) (.int .i64 1) (B := w.heap.size + 1 + 1) (by omega) S2.out.below)
      clear hb2 S1 f0 f1 f2 f3
      go_wp2
      refine bodyPost_ret (v := .agg #[.slice none 0 0, .int .i64 0, .int .i64 1]) ?_ rfl ?_
      rotate_left
      · exact HP.out
      · simp [results, Try.results12, go_sem, e0, e1, e2]
    | true =>
      have E : doT l r q n t x = doR l r q n t x := by unfold doT; rw [hd, ho]; rfl
      rw [E]
      rw [ho] at HOp
      have HD1 := mkHid (HD.out hr0)
      unfold OPostR at HD1
      generalize doR l r q n t x = o at *
      obtain ⟨l2, r2, q2⟩ := o
      simp only at HD1 ⊢
      go_enter Try.func12, Try.ntmps12
      go_wp2_with fail
      refine HR.out.mono ?_
      rintro e w1 ⟨rfl, hb1⟩
      have S1 := mkHid (S0.out.next hb1)
      obtain ⟨f0, f1, f2, f3⟩ := cel4 S1.out.b1
      clear hb1 HR S0
      go_wp2_with fail
      refine (HOp.out _).mono ?_
      rintro e w2 ⟨rfl, hb2⟩
      have S2 := mkHid (S1.out.next hb2)
      obtain ⟨f0, f1, f2, f3⟩ := cel4 S2.out.b1
      obtain ⟨d0, d1⟩ := cel2 S2.out.b2
      clear hb2 S1
      go_wp2_with fail
      refine (HD1.out _ S2.out.r0).mono ?_
      rintro e w3 ⟨va, vc, rfl, hown, hfr, hb3, hcap, hrm⟩
      have S3 := mkHid (S2.out.next hb3)
      have hw2 : w.heap.size + 3 ≤ w2.heap.size := (Array.getElem?_eq_some_iff.1 S2.out.b0).1
      obtain ⟨e0, e1, e2⟩ := cel3 S3.out.b0
      have ef := unfrozen S3.out.b0
      have HP := mkHid (opostR_put (r := r2) (q := q2) (.slice va l2.length vc) (.int .i64 r2) (.int .i64 q2) (B := w.heap.size + 1 + 1) (by omega) hown (fun b o s e => by have := hfr b o s e; omega) S3.out.below rfl hcap hrm)
      clear hb3 S2 HD HD1 f0 f1 f2 f3 d0 d1 hown hfr hrm
      cases va with
      | none =>
        go_wp2
        refine bodyPost_ret (v := .agg #[.slice none l2.length vc, .int .i64 r2, .int .i64 q2]) ?_ rfl ?_
        rotate_left
        · exact HP.out
        · simp [results, Try.results12, go_sem, e0, e1, e2]
      | some ad =>
        go_wp2
        refine bodyPost_ret (v := .agg #[.slice (some ad) l2.length vc, .int .i64 r2, .int .i64 q2]) ?_ rfl ?_
        rotate_left
        · exact HP.out
        · simp [results, Try.results12, go_sem, e0, e1, e2]
end Go.Proofs.Ytfckgpmphcadeaa.drv
