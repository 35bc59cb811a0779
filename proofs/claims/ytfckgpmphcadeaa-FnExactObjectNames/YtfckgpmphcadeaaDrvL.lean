/-
  What laws.szDrive, toDrive, eqDrive, markDrive, heldDrive, szOp, toOp, eqDriveOut, markDriveOut, heldDriveOut and eqDataOut answer and leave. Conditions: at most 1,048,576 files (100,000 where they are marked), which lie in memory; a row that is written lies in a block of its own.
-/
import Derived.Test.YtfckgpmphcadeaaRwStored
namespace Go.Proofs.Ytfckgpmphcadeaa.drv
open Go.RowKit Go.Joins
open Go.Proofs.Ytfckgpmphcadeaa.base Go.Proofs.Ytfckgpmphcadeaa.blk Go.Proofs.Ytfckgpmphcadeaa.aid
open Go.Proofs.Ytfckgpmphcadeaa.row (Rd Own OwnV)
open Go.Proofs.Ytfckgpmphcadeaa.rwStored (cs szF me)
set_option linter.unusedVariables false

theorem szL_neg : ∀ (l : List (ByteArray × ByteArray × Int)) (m : Int), 0 ≤ m → rwStored.szL l m < 0 → rwStored.szL l m = -1
  | [], m, h0, h => by simp only [rwStored.szL] at h; omega
  | b :: r, m, h0, h => by
    unfold rwStored.szL at h ⊢
    split
    · rfl
    · rename_i hb
      rw [if_neg hb] at h
      exact szL_neg r _ (by omega) h
theorem szF_neg {l : List (ByteArray × ByteArray × Int)} (h : szF l 1048576 < 0) : szF l 1048576 = -1 := by
  unfold szF at h ⊢
  split
  · rfl
  · rename_i hb
    rw [if_neg hb] at h
    exact szL_neg l _ (by omega) h

set_option maxRecDepth 100000 in
theorem sz_any (a : Option Addr) (c : Nat) (l : List (ByteArray × ByteArray × Int)) (r : Int) (w : World) (hl : (l.length : Int) ≤ 9223372036854775807) (hs : ∀ b ∈ l, (b.1.size : Int) ≤ 9223372036854775807 ∧ (b.2.1.size : Int) ≤ 9223372036854775807) (hr : Rd w a (cs l)) :
    Calls Try.prog 18 #[.agg #[.slice a l.length c, .int .i64 r], .int .i64 1048576] w fun e w' => e = .returned (.int .i64 (szF l 1048576)) ∧ Below w.heap.size w w' := by
  have HZ := mkHid (rwStored.szS_any a c l (w.alloc (.cells #[.slice a l.length c, .int .i64 r] 46)) hl hs (hr.alloc _))
  have HN := mkHid (fun h => szF_neg (l := l) h)
  generalize szF l 1048576 = z at *
  clear hr hs
  by_cases hz : z < 0
  · obtain rfl := HN.out hz
    go_enter Try.func18, Try.ntmps18
    go_wp2_with fail
    refine HZ.out.mono ?_
    rintro e w1 ⟨rfl, hb1⟩
    have B1 := mkHid (below_allocs (os := [_]) hb1)
    clear hb1 HZ
    go_wp2
    go_ret
    exact ⟨rfl, B1.out⟩
  · have hz0 : 0 ≤ z := by omega
    go_enter Try.func18, Try.ntmps18
    go_wp2_with fail
    refine HZ.out.mono ?_
    rintro e w1 ⟨rfl, hb1⟩
    have B1 := mkHid (below_allocs (os := [_]) hb1)
    clear hb1 HZ
    go_wp2
    go_ret
    exact ⟨rfl, B1.out⟩

theorem own_off {T : TypeId} {w : World} {a : Option Addr} {xs : List Value} {p : Addr} {v : Value} (h : OwnV T w a xs) (hne : ∀ b o s, a = some ⟨b, o, s⟩ → b ≠ p.block) : OwnV T (w.setCell p v) a xs := by
  rcases h with h | ⟨g, rfl, ho⟩
  · exact .inl h
  · exact .inr ⟨g, rfl, ho.block (Below.heap_setCell _ _ _ _ (hne g 0 none rfl))⟩
/-- a drive of its own is the answer -/
def DPost (w : World) (l : List (ByteArray × ByteArray × Int)) (r : Int) (e : Ending) (w' : World) : Prop :=
  ∃ a c, e = .returned (.agg #[.slice a l.length c, .int .i64 r]) ∧ OwnV 39 w' a (cs l) ∧ (∀ b o s, a = some ⟨b, o, s⟩ → w.heap.size ≤ b) ∧ Below w.heap.size w w' ∧ l.length ≤ c
set_option maxRecDepth 100000 in
theorem to_any (a : Option Addr) (c : Nat) (l : List (ByteArray × ByteArray × Int)) (r : Int) (w : World) (hl : l.length ≤ 1048576) (hr : Rd w a (cs l)) :
    Calls Try.prog 20 #[.agg #[.slice a l.length c, .int .i64 r]] w (DPost w l r) := by
  have HT := mkHid (fun wx (hx : Rd wx a (cs l)) => rwStored.toS_any a c l wx hl hx)
  unfold rwStored.SPost at HT
  have HR := mkHid hr
  clear hr
  go_enter Try.func20, Try.ntmps20
  go_wp2_with fail
  have H3 := mkHid (((HR.out.alloc (.cells #[.slice a l.length c, .int .i64 r] 46)).alloc (.cells #[.slice none 0 0, .int .i64 0] 25)).alloc (.cells #[.slice none 0 0, .int .i64 0] 25))
  refine (HT.out _ H3.out).mono ?_
  rintro e w1 ⟨a', c', rfl, ho, hf, hb1, hcap⟩
  have HCap := mkHid hcap
  have K0 := blk_below (blk_old (blk_old (blk_new w (.cells #[.slice a l.length c, .int .i64 r] 46) w.heap.size rfl) (.cells #[.slice none 0 0, .int .i64 0] 25)) (.cells #[.slice none 0 0, .int .i64 0] 25)) hb1
  have K1 := blk_below (blk_old (blk_new (w.alloc (.cells #[.slice a l.length c, .int .i64 r] 46)) (.cells #[.slice none 0 0, .int .i64 0] 25) (w.heap.size + 1) (by simp)) (.cells #[.slice none 0 0, .int .i64 0] 25)) hb1
  have K2 := blk_below (blk_new ((w.alloc (.cells #[.slice a l.length c, .int .i64 r] 46)).alloc (.cells #[.slice none 0 0, .int .i64 0] 25)) (.cells #[.slice none 0 0, .int .i64 0] 25) (w.heap.size + 1 + 1) (by simp)) hb1
  obtain ⟨c0, c1⟩ := cel2 K0
  obtain ⟨d0, d1⟩ := cel2 K1
  obtain ⟨f0, f1⟩ := cel2 K2
  have g1 : ∀ j, w1.frozen? ⟨w.heap.size + 1, j, none⟩ = false := unfrozen K1
  have g2 : ∀ j, w1.frozen? ⟨w.heap.size + 1 + 1, j, none⟩ = false := unfrozen K2
  have hf' : ∀ b o s, a' = some ⟨b, o, s⟩ → w.heap.size + 3 ≤ b := fun b o s e => by have := hf b o s e; simp at this; omega
  have hsz : w.heap.size + 3 ≤ w1.heap.size := by have := hb1.size; simp at this; omega
  have B1 := below_allocs (os := [_, _, _]) hb1
  have HN : Hid (∀ (x y z u : Value), OwnV 39 ((((w1.setCell ⟨w.heap.size + 1 + 1, 0, none⟩ x).setCell ⟨w.heap.size + 1 + 1, 1, none⟩ y).setCell ⟨w.heap.size + 1, 0, none⟩ z).setCell ⟨w.heap.size + 1, 1, none⟩ u) a' (cs l) ∧ Below w.heap.size w ((((w1.setCell ⟨w.heap.size + 1 + 1, 0, none⟩ x).setCell ⟨w.heap.size + 1 + 1, 1, none⟩ y).setCell ⟨w.heap.size + 1, 0, none⟩ z).setCell ⟨w.heap.size + 1, 1, none⟩ u)) := mkHid (fun x y z u => ⟨own_off (own_off (own_off (own_off ho (fun b o s e => by have := hf' b o s e; simp; omega)) (fun b o s e => by have := hf' b o s e; simp; omega)) (fun b o s e => by have := hf' b o s e; simp; omega)) (fun b o s e => by have := hf' b o s e; simp; omega), (((B1.setCell (by simp; omega) _).setCell (by simp; omega) _).setCell (by simp) _).setCell (by simp) _⟩)
  have HF := mkHid hf'
  clear ho hf hf' hb1 hcap K0 K1 K2 B1 HT H3 HR
  go_wp2
  exact bodyPost_ret (v := .agg #[.slice a' l.length c', .int .i64 r]) (by simp [results, Try.results20, go_sem, d0, d1]) rfl ⟨a', c', rfl, (HN.out _ _ _ _).1, fun b o s e => by have := HF.out b o s e; omega, (HN.out _ _ _ _).2, HCap.out⟩
set_option maxRecDepth 100000 in
theorem eq_same (a b : Option Addr) (ca cb : Nat) (l : List (ByteArray × ByteArray × Int)) (r : Int) (w : World) (hl : l.length ≤ 1048576) (ha : Rd w a (cs l)) (hb : Rd w b (cs l)) :
    Calls Try.prog 23 #[.agg #[.slice a l.length ca, .int .i64 r], .agg #[.slice b l.length cb, .int .i64 r]] w fun e w' => e = .returned (.bool true) ∧ Below w.heap.size w w' := by
  have h1 : (r != r) = false := by simp
  have HE := mkHid (fun wx (hx : Rd wx a (cs l)) (hy : Rd wx b (cs l)) => rwStored.eqS_same a b ca cb l wx hl hx hy)
  have HA := mkHid ((ha.alloc (.cells #[.slice a l.length ca, .int .i64 r] 25)).alloc (.cells #[.slice b l.length cb, .int .i64 r] 25))
  have HB := mkHid ((hb.alloc (.cells #[.slice a l.length ca, .int .i64 r] 25)).alloc (.cells #[.slice b l.length cb, .int .i64 r] 25))
  clear ha hb
  go_enter Try.func23, Try.ntmps23
  go_wp2_with fail
  refine (HE.out _ HA.out HB.out).mono ?_
  rintro e w1 ⟨rfl, hb1⟩
  have K0 := blk_below (blk_old (blk_new w (.cells #[.slice a l.length ca, .int .i64 r] 25) w.heap.size rfl) (.cells #[.slice b l.length cb, .int .i64 r] 25)) hb1
  have K1 := blk_below (blk_new (w.alloc (.cells #[.slice a l.length ca, .int .i64 r] 25)) (.cells #[.slice b l.length cb, .int .i64 r] 25) (w.heap.size + 1) (by simp)) hb1
  obtain ⟨c0, c1⟩ := cel2 K0
  obtain ⟨d0, d1⟩ := cel2 K1
  have B1 := mkHid (below_allocs (os := [_, _]) hb1)
  clear hb1 K0 K1 HE HA HB
  go_wp2
  go_ret
  exact ⟨rfl, B1.out⟩
set_option maxRecDepth 100000 in
theorem mark_any (a : Option Addr) (ca : Nat) (l : List (ByteArray × ByteArray × Int)) (p : Int) (w : World) (hl : l.length ≤ 1048576) (ha : OwnV 39 w a (cs l)) :
    Calls Try.prog 24 #[.agg #[.slice a l.length ca, .int .i64 p], .int .i64 1] w fun e w' => e = .returned (.int .i64 (1 + 3 * l.length)) ∧ OwnV 39 w' a (cs (me 1 l.length)) ∧ ∃ r, w.grownBy w' r ∧ ∀ b, r = some b → cs l ≠ [] ∧ ∃ o s, a = some ⟨b, o, s⟩ := by
  have HM := mkHid (rwStored.mark_any a ca l 1 _ hl (by omega) (ha.alloc (.cells #[.slice a l.length ca, .int .i64 p] 25)))
  clear ha
  go_enter Try.func24, Try.ntmps24
  go_wp2_with fail
  refine HM.out.mono ?_
  rintro e w1 ⟨rfl, ho1, r, hg1, hr1⟩
  have K1 := mkHid (And.intro ho1 (And.intro (grew_grew (below_grew (below_alloc1 w _) r) hg1) hr1))
  have hli : (l.length : Int) ≤ 1048576 := by omega
  clear ho1 hg1 hr1 HM
  go_wp2
  go_ret
  exact ⟨rfl, K1.out.1, r, K1.out.2.1, K1.out.2.2⟩
set_option maxRecDepth 100000 in
theorem held_any (a : Option Addr) (ca n : Nat) (p : Int) (w : World) (hl : n ≤ 1048576) (ha : Rd w a (cs (me 1 n))) :
    Calls Try.prog 75 #[.agg #[.slice a n ca, .int .i64 p], .int .i64 1] w fun e w' => e = .returned (.int .i64 (1 + 3 * n)) ∧ Below w.heap.size w w' := by
  have HM := mkHid (rwStored.held_any a ca n 1 _ hl (by omega) (ha.alloc (.cells #[.slice a n ca, .int .i64 p] 25)))
  clear ha
  have hli : (n : Int) ≤ 1048576 := by omega
  have hk7 : 0 ≤ 1 + 3 * (n : Int) := by omega
  go_enter Try.func75, Try.ntmps75
  go_wp2_with fail
  refine HM.out.mono ?_
  rintro e w1 ⟨rfl, hb1⟩
  have B1 := mkHid (below_allocs (os := [_]) hb1)
  clear hb1 HM
  go_wp2
  go_ret
  exact ⟨rfl, B1.out⟩
set_option maxRecDepth 100000 in
theorem eqOut_same (a b : Option Addr) (ca cb : Nat) (l : List (ByteArray × ByteArray × Int)) (r q : Int) (w : World) (hl : l.length ≤ 1048576) (ha : Rd w a (cs l)) (hb : Rd w b (cs l)) :
    Calls Try.prog 22 #[.agg #[.slice a l.length ca, .int .i64 r, .int .i64 q], .agg #[.slice b l.length cb, .int .i64 r, .int .i64 q]] w fun e w' => e = .returned (.bool true) ∧ Below w.heap.size w w' := by
  have h1 : (q != q) = false := by simp
  have HE := mkHid (fun wx (hx : Rd wx a (cs l)) (hy : Rd wx b (cs l)) => eq_same a b ca cb l r wx hl hx hy)
  have HA := mkHid ((ha.alloc (.cells #[.slice a l.length ca, .int .i64 r, .int .i64 q] 31)).alloc (.cells #[.slice b l.length cb, .int .i64 r, .int .i64 q] 31))
  have HB := mkHid ((hb.alloc (.cells #[.slice a l.length ca, .int .i64 r, .int .i64 q] 31)).alloc (.cells #[.slice b l.length cb, .int .i64 r, .int .i64 q] 31))
  clear ha hb
  go_enter Try.func22, Try.ntmps22
  go_wp2_with fail
  refine (HE.out _ HA.out HB.out).mono ?_
  rintro e w1 ⟨rfl, hb1⟩
  have K0 := blk_below (blk_old (blk_new w (.cells #[.slice a l.length ca, .int .i64 r, .int .i64 q] 31) w.heap.size rfl) (.cells #[.slice b l.length cb, .int .i64 r, .int .i64 q] 31)) hb1
  have K1 := blk_below (blk_new (w.alloc (.cells #[.slice a l.length ca, .int .i64 r, .int .i64 q] 31)) (.cells #[.slice b l.length cb, .int .i64 r, .int .i64 q] 31) (w.heap.size + 1) (by simp)) hb1
  obtain ⟨c0, c1, c2⟩ := cel3 K0
  obtain ⟨d0, d1, d2⟩ := cel3 K1
  have B1 := mkHid (below_allocs (os := [_, _]) hb1)
  clear hb1 K0 K1 HE HA HB
  go_wp2
  go_ret
  exact ⟨rfl, B1.out⟩
set_option maxRecDepth 100000 in
theorem markOut_any (a : Option Addr) (ca : Nat) (l : List (ByteArray × ByteArray × Int)) (p q : Int) (w : World) (hl : l.length ≤ 1048576) (ha : OwnV 39 w a (cs l)) :
    Calls Try.prog 25 #[.agg #[.slice a l.length ca, .int .i64 p, .int .i64 q], .int .i64 1] w fun e w' => e = .returned (.int .i64 (1 + 3 * l.length)) ∧ OwnV 39 w' a (cs (me 1 l.length)) ∧ ∃ r, w.grownBy w' r ∧ ∀ b, r = some b → cs l ≠ [] ∧ ∃ o s, a = some ⟨b, o, s⟩ := by
  have HM := mkHid (mark_any a ca l p _ hl (ha.alloc (.cells #[.slice a l.length ca, .int .i64 p, .int .i64 q] 31)))
  clear ha
  go_enter Try.func25, Try.ntmps25
  go_wp2_with fail
  refine HM.out.mono ?_
  rintro e w1 ⟨rfl, ho1, r, hg1, hr1⟩
  have K1 := mkHid (And.intro ho1 (And.intro (grew_grew (below_grew (below_alloc1 w _) r) hg1) hr1))
  have hli : (l.length : Int) ≤ 1048576 := by omega
  clear ho1 hg1 hr1 HM
  go_wp2
  go_ret
  exact ⟨rfl, K1.out.1, r, K1.out.2.1, K1.out.2.2⟩
set_option maxRecDepth 100000 in
theorem heldOut_any (a : Option Addr) (ca n : Nat) (p q : Int) (w : World) (hl : n ≤ 1048576) (ha : Rd w a (cs (me 1 n))) :
    Calls Try.prog 26 #[.agg #[.slice a n ca, .int .i64 p, .int .i64 q], .int .i64 1] w fun e w' => e = .returned (.int .i64 (1 + 3 * n)) ∧ Below w.heap.size w w' := by
  have HM := mkHid (held_any a ca n p _ hl (ha.alloc (.cells #[.slice a n ca, .int .i64 p, .int .i64 q] 31)))
  clear ha
  have hli : (n : Int) ≤ 1048576 := by omega
  have hk7 : 0 ≤ 1 + 3 * (n : Int) := by omega
  go_enter Try.func26, Try.ntmps26
  go_wp2_with fail
  refine HM.out.mono ?_
  rintro e w1 ⟨rfl, hb1⟩
  have B1 := mkHid (below_allocs (os := [_]) hb1)
  clear hb1 HM
  go_wp2
  go_ret
  exact ⟨rfl, B1.out⟩

/-- what szOp leaves -/
def szO (n t x : ByteArray) : Int := if 1048576 < (n.size : Int) + t.size + x.size then -1 else 1048576 - n.size - t.size - x.size
set_option maxRecDepth 100000 in
theorem szOp_any (k : Int) (n t x : ByteArray) (m : Int) (w : World) (h1 : (n.size : Int) ≤ 9223372036854775807) (h2 : (t.size : Int) ≤ 9223372036854775807) (h3 : (x.size : Int) ≤ 9223372036854775807) (hm0 : 0 ≤ m) (hm : m ≤ 1048576) :
    Calls Try.prog 19 #[.agg #[.int .i64 k, .string n, .string t, .string x], .int .i64 m] w fun e w' => (∃ z, e = .returned (.int .i64 z) ∧ (0 ≤ z → n.size ≤ 1048576 ∧ t.size ≤ 1048576 ∧ x.size ≤ 1048576)) ∧ Below w.heap.size w w' := by
  by_cases g1 : m < (n.size : Int)
  · go_enter Try.func19, Try.ntmps19
    go_wp2
    go_ret
    exact ⟨⟨_, rfl, by omega⟩, below_alloc1 _ _⟩
  by_cases g2 : m - (n.size : Int) < (t.size : Int)
  · go_enter Try.func19, Try.ntmps19
    go_wp2
    go_ret
    exact ⟨⟨_, rfl, by omega⟩, below_alloc1 _ _⟩
  by_cases g3 : m - (n.size : Int) - (t.size : Int) < (x.size : Int)
  · go_enter Try.func19, Try.ntmps19
    go_wp2
    go_ret
    exact ⟨⟨_, rfl, by omega⟩, below_alloc1 _ _⟩
  · have g4 : 0 ≤ m - (n.size : Int) - (t.size : Int) - (x.size : Int) := by omega
    go_enter Try.func19, Try.ntmps19
    go_wp2
    go_ret
    exact ⟨⟨_, rfl, fun _ => ⟨by omega, by omega, by omega⟩⟩, below_alloc1 _ _⟩
set_option maxRecDepth 100000 in
theorem toOp_any (k : Int) (n t x : ByteArray) (w : World) :
    Calls Try.prog 21 #[.agg #[.int .i64 k, .string n, .string t, .string x]] w fun e w' => e = .returned (.agg #[.int .i64 k, .string n, .string t, .string x]) ∧ Below w.heap.size w w' := by
  go_enter Try.func21, Try.ntmps21
  go_wp2
  exact bodyPost_ret (v := .agg #[.int .i64 k, .string n, .string t, .string x]) (by simp [results, Try.results21, go_sem]) rfl ⟨rfl, rwStored.below3 _ _ _ _⟩
end Go.Proofs.Ytfckgpmphcadeaa.drv
