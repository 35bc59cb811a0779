/-
  A blob that is drawn: (*l01Src).l07Blob: what it answers and leaves. Condition: the source lies in one block of its own.
  spec.l01Dec answers a text. Condition: a small number.
-/
import Derived.Test.YtlmhdebjmkcanaaDoorZDrawA
import Derived.Test.YtlmhdebjmkcanaaDoorZGround
import Derived.Deep.RegionHeld3
import Derived.Deep.RegionWith
namespace Go.Proofs.YtlmhdebjmkcanaaDoor.draw
open Go.RowKit Go.Joins
open Go.Proofs.YtlmhdebjmkcanaaDoor.base Go.Proofs.YtlmhdebjmkcanaaDoor.blk Go.Proofs.YtlmhdebjmkcanaaDoor.aid
set_option linter.unusedVariables false

def DrewBlob (w : World) (g : Nat) (e : Ending) (w' : World) : Prop :=
  ∃ (k : Int) (t : ByteArray), e = .returned (.agg #[.int .i64 k, .string t]) ∧ SrcAt w' g ∧ w.grownBy w' (some g)
def cells2 (k : Int) (t : ByteArray) : Obj := .cells #[.int .i64 k, .string t] 39
theorem blk_grown {w w' : World} {j g : Nat} {o : Obj} (h : w.heap[j]? = some o) (hg : w.grownBy w' (some g)) (hne : j ≠ g) : w'.heap[j]? = some o :=
  (hg.block j (Array.getElem?_eq_some_iff.1 h).1 (by simpa using hne)).trans h

/-- what stands in memory while a blob is drawn -/
structure Bd (w : World) (g C : Nat) (k : Int) (t : ByteArray) (wr : World) : Prop where
  src : SrcAt wr g
  grown : w.grownBy wr (some g)
  res : wr.heap[w.heap.size]? = some (cells2 0 ⟨#[]⟩)
  box : wr.heap[C]? = some (cells2 k t)
  hC : w.heap.size < C
  hg : g < w.heap.size
theorem Bd.draw {w wr w' : World} {g C : Nat} {k : Int} {t : ByteArray} (h : Bd w g C k t wr) (hs : SrcAt w' g) (hg : wr.grownBy w' (some g)) : Bd w g C k t w' :=
  ⟨hs, grown_trans h.grown hg, blk_grown h.res hg (by have := h.hg; omega), blk_grown h.box hg (by have := h.hg; have := h.hC; omega), h.hC, h.hg⟩
theorem Bd.alloc {w wr : World} {g C : Nat} {k : Int} {t : ByteArray} (h : Bd w g C k t wr) (o : Obj) : Bd w g C k t (wr.alloc o) :=
  ⟨h.src.below ((Below.refl _ _).alloc (Nat.le_refl _) _), grown_trans h.grown (World.grownBy_alloc wr o _), blk_old h.res o, blk_old h.box o, h.hC, h.hg⟩
theorem Bd.drew {w wr : World} {g C : Nat} {k : Int} {t : ByteArray} (h : Bd w g C k t wr) : Bd w g C k t wr.drew := ⟨h.src, ⟨h.grown.os, h.grown.tape, h.grown.output, h.grown.size, h.grown.block⟩, h.res, h.box, h.hC, h.hg⟩
theorem src_set {wr : World} {g : Nat} (h : SrcAt wr g) (p : Addr) (v : Value) (hp : g < p.block) : SrcAt (wr.setCell p v) g :=
  h.upto ((Below.refl (g + 1) wr).setCell hp v)
theorem Bd.setAny {w wr : World} {g C : Nat} {k : Int} {t : ByteArray} (h : Bd w g C k t wr) (j : Nat) (v : Value) (k' : Int) (t' : ByteArray) (e : (#[.int .i64 k, .string t] : Array Value).setIfInBounds j v = #[.int .i64 k', .string t']) : Bd w g C k' t' (wr.setCell ⟨C, j, none⟩ v) := by
  have h1 := h.hC
  have h2 := h.hg
  refine ⟨src_set h.src _ _ (by simp; omega), ⟨h.grown.os, h.grown.tape, h.grown.output, by simpa using h.grown.size, fun k hk hne => ?_⟩, blk_set h.res _ _ (by simp; omega), ?_, h1, h2⟩
  · rw [Below.heap_setCell _ _ _ _ (by simp; omega)]
    exact h.grown.block k hk hne
  · have k := block_setCell (i := j) h.box v
    rw [k, e]
    rfl
theorem Bd.fin {w wr : World} {g C : Nat} {k : Int} {t : ByteArray} (h : Bd w g C k t wr) : DrewBlob w g (.returned (.agg #[.int .i64 k, .string t])) ((wr.setCell ⟨w.heap.size, 0, none⟩ (.int .i64 k)).setCell ⟨w.heap.size, 1, none⟩ (.string t)) := by
  have h2 := h.hg
  refine ⟨k, t, rfl, src_set (src_set h.src _ _ (by simpa using h2)) _ _ (by simpa using h2), ⟨h.grown.os, h.grown.tape, h.grown.output, by simpa using h.grown.size, fun k hk hne => ?_⟩⟩
  rw [Below.heap_setCell _ _ _ _ (by simp; omega), Below.heap_setCell _ _ _ _ (by simp; omega)]
  exact h.grown.block k hk hne

theorem made_cell (w : World) (m j : Nat) (h : j < m) (e : TypeId) : (w.alloc (.cells (madeCells #[.int .u8 0] m) e)).cell? ((⟨w.heap.size, 0, none⟩ : Addr).add j) = some (.int .u8 0) := by
  rw [Addr.add_lit]
  simp [madeCells, Nat.mod_one, h]
theorem made_run (m : Nat) (hm : m ≤ 100000) (u : World) : (Instr.makeSlice 22 (.int .i64 (m : Int)) (.int .i64 (m : Int))).run Tryd.prog u = .ok (.slice (some ⟨u.heap.size, 0, none⟩) m m) (u.alloc (.cells (madeCells #[.int .u8 0] m) 5)) := by
  obtain ⟨i0, hi, hz0, hz1, hz2⟩ := info_parts info5
  have h := run_make (P := Tryd.prog) u 22 5 i0 (.int .u8 0) Tryd.underlying22 hi hz0 .i64 .i64 (m : Int) (m : Int) (by omega) (Int.le_refl _) (by rw [hz2]; omega) (by omega)
  have e : (m : Int).toNat = m := by omega
  rw [e] at h
  simpa [hz1, Value.cells] using h
theorem made_text (w3 : World) (m : Nat) : (convert 22 9 (.slice (some ⟨w3.heap.size, 0, none⟩) m m)).run Tryd.prog (w3.alloc (.cells (madeCells #[.int .u8 0] m) 5)) = .ok (.string ⟨(List.replicate m (0 : UInt8)).toArray⟩) (w3.alloc (.cells (madeCells #[.int .u8 0] m) 5)) := by
  have hconv := run_convert_bytes_back (P := Tryd.prog) (w3.alloc (.cells (madeCells #[.int .u8 0] m) 5)) 22 9 5 (⟨w3.heap.size, 0, none⟩ : Addr) m (List.replicate m 0) Tryd.underlying22 Tryd.underlying5 Tryd.underlying9 (fun j hj => by
    rw [List.length_replicate] at hj
    rw [made_cell w3 m j hj 5]
    simp)
  rw [List.length_replicate] at hconv
  exact hconv

set_option maxRecDepth 100000 in
set_option maxHeartbeats 4000000 in
theorem blob_any (g : Nat) (w : World) (h : SrcAt w g) :
    Calls Tryd.prog 47 #[.pointer (some ⟨g, 0, none⟩)] w fun e w' => DrewBlob w g e w' := by
  have hgl := h.lt
  have HN : Hid (∀ wx (m : Int), m ≤ 9223372036854775807 → SrcAt wx g → Calls Tryd.prog 46 #[.pointer (some ⟨g, 0, none⟩), .int .i64 m] wx fun e w' => Drew wx g m e w') := mkHid (fun wx m h1 h2 => n_any g m wx h1 h2)
  have HT : Hid (∀ wx (n : Nat), n ≤ 100000 → SrcAt wx g → Calls Tryd.prog 57 #[.pointer (some ⟨g, 0, none⟩), .int .i64 n] wx fun e w' => DrewText wx g n e w') := mkHid (fun wx n h1 h2 => bytes_any g n wx h1 h2)
  have HO : Hid (∀ wx (n : Int), n ≤ 9223372036854775807 → SrcAt wx g → Calls Tryd.prog 48 #[.pointer (some ⟨g, 0, none⟩), .int .i64 n] wx fun e w' => DrewBool wx g e w') := mkHid (fun wx n h1 h2 => one_any g n wx h1 h2)
  go_enter Tryd.func47, Tryd.ntmps47
  go_wp2_with fail
  have S0 := mkHid (And.intro (h.below (below_alloc1 w (cells2 0 ⟨#[]⟩))) (And.intro (World.grownBy_alloc w (cells2 0 ⟨#[]⟩) (some g)) (blk_new w (cells2 0 ⟨#[]⟩) _ rfl)))
  clear h
  refine (HN.out _ 2 (by omega) S0.out.1).mono ?_
  rintro e w1 ⟨r1, rfl, hr0, hr1, _, hs1, hg1⟩
  have hr1' := hr1 (by omega)
  have S1 := mkHid (And.intro hs1 (And.intro (grown_trans S0.out.2.1 hg1) (blk_grown S0.out.2.2 hg1 (by omega))))
  clear S0 hs1 hg1 hr1
  go_wp2_with fail
  refine (HN.out _ 30 (by omega) S1.out.1).mono ?_
  rintro e w2 ⟨r2, rfl, hq0, hq1, _, hs2, hg2⟩
  have hq1' := hq1 (by omega)
  obtain ⟨m, rfl⟩ := Int.eq_ofNat_of_zero_le hq0
  have S2 := mkHid (And.intro hs2 (And.intro (grown_trans S1.out.2.1 hg2) (blk_grown S1.out.2.2 hg2 (by omega))))
  clear S1 hs2 hg2 hq1
  go_wp2_with fail
  refine (HT.out _ m (by omega) S2.out.1).mono ?_
  rintro e w3 ⟨t0, rfl, ht0, hs3, hg3⟩
  have k3 := blk_grown S2.out.2.2 hg3 (by omega)
  have hC3 : w.heap.size < w3.heap.size := (Array.getElem?_eq_some_iff.1 k3).1
  have S3 : Hid (Bd w g w3.heap.size (1 + r1) t0 (w3.alloc (cells2 (1 + r1) t0))) := mkHid ⟨hs3.below (below_alloc1 w3 _), grown_trans (grown_trans S2.out.2.1 hg3) (World.grownBy_alloc w3 _ _), blk_old k3 _, blk_new w3 _ _ rfl, hC3, hgl⟩
  clear S2 hs3 hg3 k3
  go_wp2_with fail
  unfold cells2 at S3
  generalize w3.alloc (.cells #[.int .i64 (1 + r1), .string t0] 39) = W at *
  have S3' : Hid (Bd w g w3.heap.size (1 + r1) t0 W) := S3
  clear S3
  generalize w3.heap.size = C at *
  obtain ⟨k0, hk0⟩ : ∃ x, x = 1 + r1 := ⟨_, rfl⟩
  rw [← hk0] at S3'
  rw [← hk0]
  clear hk0
  refine (HO.out _ 25 (by omega) S3'.out.src).mono ?_
  rintro e w5 ⟨b, rfl, hs5, hg5⟩
  have S5 := mkHid (S3'.out.draw hs5 hg5)
  clear hs5 hg5 S3'
  cases b with
  | true =>
    go_wp2_with fail
    refine (HN.out _ 5 (by omega) S5.out.src).mono ?_
    rintro e w6 ⟨r, rfl, hr0, hr1, _, hs6, hg6⟩
    have hr1' := hr1 (by omega)
    have S6 := mkHid (S5.out.draw hs6 hg6)
    clear hs6 hg6 S5 hr1
    have d0 : w6.cell? ⟨C, 0, none⟩ = some (.int .i64 k0) := (cel2 S6.out.box).1
    have df : w6.frozen? ⟨C, 0, none⟩ = false := unfrozen S6.out.box 0
    go_wp2_with fail
    have S7 := mkHid (S6.out.setAny 0 (.int .i64 (r - 1)) (r - 1) t0 rfl)
    clear S6 d0 df
    generalize w6.setCell ⟨C, 0, none⟩ (.int .i64 (r - 1)) = W7 at *
    generalize r - 1 = k1 at *
    clear hr0 hr1'
    refine (HO.out _ 60 (by omega) S7.out.src).mono ?_
    rintro e w8 ⟨b, rfl, hs8, hg8⟩
    have S8 := mkHid (S7.out.draw hs8 hg8)
    clear hs8 hg8 S7
    cases b with
    | false =>
      obtain ⟨e0, e1⟩ := cel2 S8.out.box
      obtain ⟨f0, f1⟩ := cel2 S8.out.res
      have ff : ∀ j, w8.frozen? ⟨w.heap.size, j, none⟩ = false := unfrozen S8.out.res
      go_wp2
      exact bodyPost_ret (v := .agg #[.int .i64 (k1), .string t0]) (by simp [results, Tryd.results47, go_sem, f0, f1]) rfl S8.out.fin
    | true =>
      go_wp2_with fail
      refine (HN.out _ 3 (by omega) S8.out.src).mono ?_
      rintro e w9 ⟨r, rfl, hr0, hr1, _, hs9, hg9⟩
      have hr1' := hr1 (by omega)
      obtain ⟨mm, hm⟩ : ∃ m : Nat, 1999 + r = (m : Int) := ⟨(1999 + r).toNat, by omega⟩
      have hm2 : mm ≤ 2001 := by omega
      obtain rfl : r = (mm : Int) - 1999 := by omega
      have hsum : (1999 : Int) + ((mm : Int) - 1999) = (mm : Int) := by omega
      have S9 := mkHid ((S8.out.draw hs9 hg9).alloc (.cells (madeCells #[.int .u8 0] mm) 5))
      clear hs9 hg9 S8 hr1 hm hr1'
      have hmk := made_run mm (by omega)
      have hconv := made_text w9 mm
      obtain ⟨e0, e1⟩ := cel2 S9.out.box
      obtain ⟨f0, f1⟩ := cel2 S9.out.res
      have ff : ∀ j, (w9.alloc (.cells (madeCells #[.int .u8 0] mm) 5)).frozen? ⟨w.heap.size, j, none⟩ = false := unfrozen S9.out.res
      have fe : ∀ j, (w9.alloc (.cells (madeCells #[.int .u8 0] mm) 5)).frozen? ⟨C, j, none⟩ = false := unfrozen S9.out.box
      go_wp2_with fail
      have S10 := mkHid (S9.out.setAny 1 (.string ⟨Array.replicate mm 0⟩) (k1) ⟨Array.replicate mm 0⟩ rfl)
      clear S9 e0 e1 f0 f1 ff fe hmk hconv
      generalize (w9.alloc (.cells (madeCells #[.int .u8 0] mm) 5)).setCell ⟨C, 1, none⟩ (.string ⟨Array.replicate mm 0⟩) = W10 at *
      obtain ⟨f0, f1⟩ := cel2 S10.out.res
      exact bodyPost_ret (v := .agg #[.int .i64 (k1), .string ⟨Array.replicate mm 0⟩]) (by simp [results, Tryd.results47, go_sem, f0, f1]) rfl S10.out.fin
  | false =>
    go_wp2_with fail
    refine (HO.out _ 60 (by omega) S5.out.src).mono ?_
    rintro e w8 ⟨b, rfl, hs8, hg8⟩
    have S8 := mkHid (S5.out.draw hs8 hg8)
    clear hs8 hg8 S5
    cases b with
    | false =>
      obtain ⟨e0, e1⟩ := cel2 S8.out.box
      obtain ⟨f0, f1⟩ := cel2 S8.out.res
      have ff : ∀ j, w8.frozen? ⟨w.heap.size, j, none⟩ = false := unfrozen S8.out.res
      go_wp2
      exact bodyPost_ret (v := .agg #[.int .i64 (k0), .string t0]) (by simp [results, Tryd.results47, go_sem, f0, f1]) rfl S8.out.fin
    | true =>
      go_wp2_with fail
      refine (HN.out _ 3 (by omega) S8.out.src).mono ?_
      rintro e w9 ⟨r, rfl, hr0, hr1, _, hs9, hg9⟩
      have hr1' := hr1 (by omega)
      obtain ⟨mm, hm⟩ : ∃ m : Nat, 1999 + r = (m : Int) := ⟨(1999 + r).toNat, by omega⟩
      have hm2 : mm ≤ 2001 := by omega
      obtain rfl : r = (mm : Int) - 1999 := by omega
      have hsum : (1999 : Int) + ((mm : Int) - 1999) = (mm : Int) := by omega
      have S9 := mkHid ((S8.out.draw hs9 hg9).alloc (.cells (madeCells #[.int .u8 0] mm) 5))
      clear hs9 hg9 S8 hr1 hm hr1'
      have hmk := made_run mm (by omega)
      have hconv := made_text w9 mm
      obtain ⟨e0, e1⟩ := cel2 S9.out.box
      obtain ⟨f0, f1⟩ := cel2 S9.out.res
      have ff : ∀ j, (w9.alloc (.cells (madeCells #[.int .u8 0] mm) 5)).frozen? ⟨w.heap.size, j, none⟩ = false := unfrozen S9.out.res
      have fe : ∀ j, (w9.alloc (.cells (madeCells #[.int .u8 0] mm) 5)).frozen? ⟨C, j, none⟩ = false := unfrozen S9.out.box
      go_wp2_with fail
      have S10 := mkHid (S9.out.setAny 1 (.string ⟨Array.replicate mm 0⟩) (k0) ⟨Array.replicate mm 0⟩ rfl)
      clear S9 e0 e1 f0 f1 ff fe hmk hconv
      generalize (w9.alloc (.cells (madeCells #[.int .u8 0] mm) 5)).setCell ⟨C, 1, none⟩ (.string ⟨Array.replicate mm 0⟩) = W10 at *
      obtain ⟨f0, f1⟩ := cel2 S10.out.res
      exact bodyPost_ret (v := .agg #[.int .i64 (k0), .string ⟨Array.replicate mm 0⟩]) (by simp [results, Tryd.results47, go_sem, f0, f1]) rfl S10.out.fin
end Go.Proofs.YtlmhdebjmkcanaaDoor.draw
namespace Go.Proofs.YtlmhdebjmkcanaaDoor.draw
open Go.RowKit Go.Joins
open Go.Proofs.YtlmhdebjmkcanaaDoor.base Go.Proofs.YtlmhdebjmkcanaaDoor.blk Go.Proofs.YtlmhdebjmkcanaaDoor.aid
set_option linter.unusedVariables false

def DecPost (w : World) (e : Ending) (w' : World) : Prop := ∃ t : ByteArray, e = .returned (.string t) ∧ t.size ≤ 200 ∧ Below w.heap.size w w'

set_option maxRecDepth 100000 in
set_option maxHeartbeats 1000000 in
theorem dec_any (n : Nat) (w : World) (hn : n ≤ 100) :
    Calls Tryd.prog 49 #[.int .i64 n] w fun e w' => DecPost w e w' := by
  by_cases h0 : n = 0
  · subst h0
    go_enter Tryd.func49, Tryd.ntmps49
    go_wp2
    go_ret
    exact ⟨_, rfl, by decide, Below.refl _ _⟩
  · have hni : ((n : Int) == 0) = false := by simp; omega
    have hn1 : ¬ ((n : Int) < 0) := by omega
    go_enter Tryd.func49, Tryd.ntmps49
    go_wp2_with fail
    go_loopw [0, 4] (fun x v wr => ∃ (k : Nat) (t : ByteArray), x = .int .i64 k ∧ v = .string t ∧ k ≤ 100 ∧ Hid (t.size + k ≤ 200) ∧ Hid (Below w.heap.size w wr))
      (fun x _ _ => (intOf x).toNat)
    case atStart => exact ⟨n, ⟨#[]⟩, rfl, rfl, hn, mkHid (by show 0 + n ≤ 200; omega), mkHid (Below.refl _ _)⟩
    case round =>
      obtain ⟨k, t, rfl, rfl, hk, ht, hB⟩ := hrel
      by_cases hk0 : k = 0
      · subst hk0
        go_wp2
        go_ret
        exact ⟨t, rfl, by have := ht.out; omega, hB.out⟩
      · have hki : ((k : Int) == 0) = false := by simp; omega
        have hki2 : (k : Int) ≤ 100 := by omega
        have hti : (t.size : Int) ≤ 200 := by have := ht.out; omega
        clear hni hn1
        have ec : ((UInt8.ofNat (48 + k % 10)).toNat : Int) = 48 + (k : Int) % 10 := by rw [UInt8.toNat_ofNat']; omega
        have hcv := one_string wr (UInt8.ofNat (48 + k % 10))
        rw [ec] at hcv
        generalize UInt8.ofNat (48 + k % 10) = ch at hcv
        clear ec
        have hadd := fun wx => run_string_add_sum (P := Tryd.prog) wx ⟨#[ch]⟩ t (by have := one_size ch; omega)
        have N1 : Hid ((⟨#[ch]⟩ ++ t : ByteArray).size + k / 10 ≤ 200) := mkHid (by have := ht.out; rw [ByteArray.size_append, one_size]; omega)
        have N2 := mkHid (hB.out.alloc hB.out.size (.cells #[.int .u8 (48 + (k : Int) % 10)] 5))
        clear ht hB
        go_wp2
        exact ⟨⟨k / 10, _, by go_num, rfl, by omega, N1, N2⟩, by simp [intOf]; omega⟩
end Go.Proofs.YtlmhdebjmkcanaaDoor.draw
