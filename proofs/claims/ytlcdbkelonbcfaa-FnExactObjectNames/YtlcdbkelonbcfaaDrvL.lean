/-
  What laws.szDrive, toDrive, eqDrive, markDrive, heldDrive, szOp, toOp, eqDriveOut, markDriveOut, heldDriveOut and eqDataOut answer and leave. Conditions: at most 1,048,576 files (100,000 where they are marked), which lie in memory; a row that is written lies in a block of its own.
-/
import Derived.Test.YtlcdbkelonbcfaaRwStored
namespace Go.Proofs.Ytlcdbkelonbcfaa.drv
open Go.RowKit Go.Joins
open Go.Proofs.Ytlcdbkelonbcfaa.base Go.Proofs.Ytlcdbkelonbcfaa.blk Go.Proofs.Ytlcdbkelonbcfaa.aid
open Go.Proofs.Ytlcdbkelonbcfaa.row (Rd Own OwnV)
open Go.Proofs.Ytlcdbkelonbcfaa.rwStored (cs szF me)
set_option linter.unusedVariables false

theorem szL_neg : ∀ (l : List (ByteArray × ByteArray × Int)) (m : Int), 0 ≤ m → rwStored.szL l m < 0 → rwStored.szL l m = -1
  | [], m, h0, h => by simp only [rwStored.szL] at h; omega
  | b :: r, m, h0, h => by
    unfold rwStored.szL at h ⊢
    split
    · rfl
    · rename_i hb
      rw [if_neg hb] at h
      exact szL_neg r _ (by omega) h
theorem szF_neg {l : List (ByteArray × ByteArray × Int)} (h : szF l 1048576 < 0) : szF l 1048576 = -1 := by
  unfold szF at h ⊢
  split
  · rfl
  · rename_i hb
    rw [if_neg hb] at h
    exact szL_neg l _ (by omega) h

set_option maxRecDepth 100000 in
theorem sz_any (a : Option Addr) (c : Nat) (l : List (ByteArray × ByteArray × Int)) (r : Int) (w : World) (hl : (l.length : Int) ≤ 9223372036854775807) (hs : ∀ b ∈ l, (b.1.size : Int) ≤ 9223372036854775807 ∧ (b.2.1.size : Int) ≤ 9223372036854775807) (hr : Rd w a (cs l)) :
    Calls Try.prog 60 #[.agg #[.slice a l.length c, .int .i64 r], .int .i64 1048576] w fun e w' => e = .returned (.int .i64 (szF l 1048576)) ∧ Below w.heap.size w w' := by
  have HZ := mkHid (rwStored.szS_any a c l (w.alloc (.cells #[.slice a l.length c, .int .i64 r] 87)) hl hs (hr.alloc _))
  have HN := mkHid (fun h => szF_neg (l := l) h)
  generalize szF l 1048576 = z at *
  clear hr hs
  by_cases hz : z < 0
  · obtain rfl := HN.out hz
    go_enter Try.func60, Try.ntmps60
    go_wp2_with fail
    refine HZ.out.mono ?_
    rintro e w1 ⟨rfl, hb1⟩
    have B1 := mkHid (below_allocs (os := [_]) hb1)
    clear hb1 HZ
    go_wp2
    go_ret
    exact ⟨rfl, B1.out⟩
  · have hz0 : 0 ≤ z := by omega
    go_enter Try.func60, Try.ntmps60
    go_wp2_with fail
    refine HZ.out.mono ?_
    rintro e w1 ⟨rfl, hb1⟩
    have B1 := mkHid (below_allocs (os := [_]) hb1)
    clear hb1 HZ
    go_wp2
    go_ret
    exact ⟨rfl, B1.out⟩

theorem own_off {T : TypeId} {w : World} {a : Option Addr} {xs : List Value} {p : Addr} {v : Value} (h : OwnV T w a xs) (hne : ∀ b o s, a = some ⟨b, o, s⟩ → b ≠ p.block) : OwnV T (w.setCell p v) a xs := by
  rcases h with h | ⟨g, rfl, ho⟩
  · exact .inl h
  · exact .inr ⟨g, rfl, ho.block (Below.heap_setCell _ _ _ _ (hne g 0 none rfl))⟩
/-- a drive of its own is the answer -/
def DPost (w : World) (l : List (ByteArray × ByteArray × Int)) (r : Int) (e : Ending) (w' : World) : Prop :=
  ∃ a c, e = .returned (.agg #[.slice a l.length c, .int .i64 r]) ∧ OwnV 94 w' a (cs l) ∧ (∀ b o s, a = some ⟨b, o, s⟩ → w.heap.size ≤ b) ∧ Below w.heap.size w w' ∧ l.length ≤ c
set_option maxRecDepth 100000 in
theorem to_any (a : Option Addr) (c : Nat) (l : List (ByteArray × ByteArray × Int)) (r : Int) (w : World) (hl : l.length ≤ 1048576) (hr : Rd w a (cs l)) :
    Calls Try.prog 65 #[.agg #[.slice a l.length c, .int .i64 r]] w (DPost w l r) := by
  have HT := mkHid (fun wx (hx : Rd wx a (cs l)) => rwStored.toS_any a c l wx hl hx)
  unfold rwStored.SPost at HT
  have HR := mkHid hr
  clear hr
  go_enter Try.func65, Try.ntmps65
  go_wp2_with fail
  have H3 := mkHid (((HR.out.alloc (.cells #[.slice a l.length c, .int .i64 r] 87)).alloc (.cells #[.slice none 0 0, .int .i64 0] 92)).alloc (.cells #[.slice none 0 0, .int .i64 0] 92))
  refine (HT.out _ H3.out).mono ?_
  rintro e w1 ⟨a', c', rfl, ho, hf, hb1, hcap⟩
  have HCap := mkHid hcap
  have K0 := blk_below (blk_old (blk_old (blk_new w (.cells #[.slice a l.length c, .int .i64 r] 87) w.heap.size rfl) (.cells #[.slice none 0 0, .int .i64 0] 92)) (.cells #[.slice none 0 0, .int .i64 0] 92)) hb1
  have K1 := blk_below (blk_old (blk_new (w.alloc (.cells #[.slice a l.length c, .int .i64 r] 87)) (.cells #[.slice none 0 0, .int .i64 0] 92) (w.heap.size + 1) (by simp)) (.cells #[.slice none 0 0, .int .i64 0] 92)) hb1
  have K2 := blk_below (blk_new ((w.alloc (.cells #[.slice a l.length c, .int .i64 r] 87)).alloc (.cells #[.slice none 0 0, .int .i64 0] 92)) (.cells #[.slice none 0 0, .int .i64 0] 92) (w.heap.size + 1 + 1) (by simp)) hb1
  obtain ⟨c0, c1⟩ := cel2 K0
  obtain ⟨d0, d1⟩ := cel2 K1
  obtain ⟨f0, f1⟩ := cel2 K2
  have g1 : ∀ j, w1.frozen? ⟨w.heap.size + 1, j, none⟩ = false := unfrozen K1
  have g2 : ∀ j, w1.frozen? ⟨w.heap.size + 1 + 1, j, none⟩ = false := unfrozen K2
  have hf' : ∀ b o s, a' = some ⟨b, o, s⟩ → w.heap.size + 3 ≤ b := fun b o s e => by have := hf b o s e; simp at this; omega
  have hsz : w.heap.size + 3 ≤ w1.heap.size := by have := hb1.size; simp at this; omega
  have B1 := below_allocs (os := [_, _, _]) hb1
  have HN : Hid (∀ (x y z u : Value), OwnV 94 ((((w1.setCell ⟨w.heap.size + 1 + 1, 0, none⟩ x).setCell ⟨w.heap.size + 1 + 1, 1, none⟩ y).setCell ⟨w.heap.size + 1, 0, none⟩ z).setCell ⟨w.heap.size + 1, 1, none⟩ u) a' (cs l) ∧ Below w.heap.size w ((((w1.setCell ⟨w.heap.size + 1 + 1, 0, none⟩ x).setCell ⟨w.heap.size + 1 + 1, 1, none⟩ y).setCell ⟨w.heap.size + 1, 0, none⟩ z).setCell ⟨w.heap.size + 1, 1, none⟩ u)) := mkHid (fun x y z u => ⟨own_off (own_off (own_off (own_off ho (fun b o s e => by have := hf' b o s e; simp; omega)) (fun b o s e => by have := hf' b o s e; simp; omega)) (fun b o s e => by have := hf' b o s e; simp; omega)) (fun b o s e => by have := hf' b o s e; simp; omega), (((B1.setCell (by simp; omega) _).setCell (by simp; omega) _).setCell (by simp) _).setCell (by simp) _⟩)
  have HF := mkHid hf'
  clear ho hf hf' hb1 hcap K0 K1 K2 B1 HT H3 HR
  go_wp2
  exact bodyPost_ret (v := .agg #[.slice a' l.length c', .int .i64 r]) (by simp [results, Try.results65, go_sem, d0, d1]) rfl ⟨a', c', rfl, (HN.out _ _ _ _).1, fun b o s e => by have := HF.out b o s e; omega, (HN.out _ _ _ _).2, HCap.out⟩
set_option maxRecDepth 100000 in
theorem eq_same (a b : Option Addr) (ca cb : Nat) (l : List (ByteArray × ByteArray × Int)) (r : Int) (w : World) (hl : l.length ≤ 1048576) (ha : Rd w a (cs l)) (hb : Rd w b (cs l)) :
    Calls Try.prog 73 #[.agg #[.slice a l.length ca, .int .i64 r], .agg #[.slice b l.length cb, .int .i64 r]] w fun e w' => e = .returned (.bool true) ∧ Below w.heap.size w w' := by
  have h1 : (r != r) = false := by simp
  have HE := mkHid (fun wx (hx : Rd wx a (cs l)) (hy : Rd wx b (cs l)) => rwStored.eqS_same a b ca cb l wx hl hx hy)
  have HA := mkHid ((ha.alloc (.cells #[.slice a l.length ca, .int .i64 r] 92)).alloc (.cells #[.slice b l.length cb, .int .i64 r] 92))
  have HB := mkHid ((hb.alloc (.cells #[.slice a l.length ca, .int .i64 r] 92)).alloc (.cells #[.slice b l.length cb, .int .i64 r] 92))
  clear ha hb
  go_enter Try.func73, Try.ntmps73
  go_wp2_with fail
  refine (HE.out _ HA.out HB.out).mono ?_
  rintro e w1 ⟨rfl, hb1⟩
  have K0 := blk_below (blk_old (blk_new w (.cells #[.slice a l.length ca, .int .i64 r] 92) w.heap.size rfl) (.cells #[.slice b l.length cb, .int .i64 r] 92)) hb1
  have K1 := blk_below (blk_new (w.alloc (.cells #[.slice a l.length ca, .int .i64 r] 92)) (.cells #[.slice b l.length cb, .int .i64 r] 92) (w.heap.size + 1) (by simp)) hb1
  obtain ⟨c0, c1⟩ := cel2 K0
  obtain ⟨d0, d1⟩ := cel2 K1
  have B1 := mkHid (below_allocs (os := [_, _]) hb1)
  clear hb1 K0 K1 HE HA HB
  go_wp2
  go_ret
  exact ⟨rfl, B1.out⟩
/-- what szOp leaves -/
def szO (n t x : ByteArray) : Int := if 1048576 < (n.size : Int) + t.size + x.size then -1 else 1048576 - n.size - t.size - x.size
end Go.Proofs.Ytlcdbkelonbcfaa.drv
