/-
  Codes and frames that are drawn: (*l01Src).l04Code, l09Frame, DrawFrameBytes: what they answer and leave. Condition: the source lies in one block of its own.
  What spec.DrawFrameBytes and spec.DrawFrameRead answer and leave. Condition: the argument lies in memory, at most 1,048,576 bytes.
-/
import Derived.Test.YtjkbldmadcgddaaDoorZDrawF
import Derived.Test.YtjkbldmadcgddaaDoorZFrmS
import Derived.Deep.RegionWith
namespace Go.Proofs.YtjkbldmadcgddaaDoor.draw
open Go.RowKit Go.Joins
open Go.Proofs.YtjkbldmadcgddaaDoor.base Go.Proofs.YtjkbldmadcgddaaDoor.blk Go.Proofs.YtjkbldmadcgddaaDoor.aid
open Go.Proofs.YtjkbldmadcgddaaDoor.frm (zeroF set6 cel6 digest_len)
open Go.Proofs.YtjkbldmadcgddaaDoor.code (shard)
open Go.Proofs.YtjkbldmadcgddaaDoor.sha (digest)
set_option linter.unusedVariables false
set_option linter.unusedSimpArgs false

def DrewCode (w : World) (g : Nat) (e : Ending) (w' : World) : Prop :=
  ∃ k m : Int, e = .returned (.tuple #[.int .i64 k, .int .i64 m]) ∧ -1 ≤ k ∧ k ≤ 10 ∧ -1 ≤ m ∧ m ≤ 10 ∧ SrcAt w' g ∧ w.grownBy w' (some g)
set_option maxRecDepth 100000 in
theorem code_any (g : Nat) (w : World) (h : SrcAt w g) :
    Calls Tryd.prog 27 #[.pointer (some ⟨g, 0, none⟩)] w fun e w' => DrewCode w g e w' := by
  go_enter Tryd.func27, Tryd.ntmps27
  go_wp2_with fail
  refine (one_any g 25 w (by omega) h).mono ?_
  rintro e w1 ⟨b, rfl, hs1, hg1⟩
  have H1 := mkHid (And.intro hs1 hg1)
  clear hs1 hg1 h
  cases b with
  | true =>
    go_wp2_with fail
    refine (n_any g 11 w1 (by omega) H1.out.1).mono ?_
    rintro e w2 ⟨r, rfl, hr0, hr1, _, hs2, hg2⟩
    have hr1 := hr1 (by omega)
    have H2 := mkHid (src_next H1.out hs2 hg2)
    clear hs2 hg2 H1
    go_wp2_with fail
    refine (n_any g 9 w2 (by omega) H2.out.1).mono ?_
    rintro e w3 ⟨q, rfl, hq0, hq1, _, hs3, hg3⟩
    have hq1 := hq1 (by omega)
    have H3 := mkHid (src_next H2.out hs3 hg3)
    clear hs3 hg3 H2
    go_wp2
    refine bodyPost_ret (v := .tuple #[.int .i64 (r - 1), .int .i64 (q - 1)]) ?_ rfl ?_
    rotate_left
    · exact ⟨_, _, rfl, by omega, by omega, by omega, by omega, H3.out.1, H3.out.2⟩
    · simp [results, Tryd.results27, go_sem]
  | false =>
    go_wp2_with fail
    refine (n_any g 4 w1 (by omega) H1.out.1).mono ?_
    rintro e w2 ⟨r, rfl, hr0, hr1, _, hs2, hg2⟩
    have hr1 := hr1 (by omega)
    have H2 := mkHid (src_next H1.out hs2 hg2)
    clear hs2 hg2 H1
    go_wp2_with fail
    refine (n_any g 4 w2 (by omega) H2.out.1).mono ?_
    rintro e w3 ⟨q, rfl, hq0, hq1, _, hs3, hg3⟩
    have hq1 := hq1 (by omega)
    have H3 := mkHid (src_next H2.out hs3 hg3)
    clear hs3 hg3 H2
    go_wp2
    refine bodyPost_ret (v := .tuple #[.int .i64 (1 + r), .int .i64 q]) ?_ rfl ?_
    rotate_left
    · exact ⟨_, _, rfl, by omega, by omega, by omega, by omega, H3.out.1, H3.out.2⟩
    · simp [results, Tryd.results27, go_sem]
theorem max_any (a b : Int) (w : World) :
    Calls Tryd.prog 28 #[.int .i64 a, .int .i64 b] w fun e w' => e = .returned (.int .i64 (if b < a then a else b)) ∧ w' = w := by
  by_cases h : b < a
  · have E := mkHid (show (if b < a then a else b) = a from if_pos h)
    go_enter Tryd.func28, Tryd.ntmps28
    go_wp2
    go_ret
    exact ⟨rfl, rfl⟩
  · have E := mkHid (show (if b < a then a else b) = b from if_neg h)
    have h' : a ≤ b := by omega
    go_enter Tryd.func28, Tryd.ntmps28
    go_wp2
    go_ret
    exact ⟨rfl, rfl⟩
/-- a frame that is drawn -/
def DrewFrame (w : World) (g : Nat) (e : Ending) (w' : World) : Prop :=
  ∃ (k m i s : Int) (h x : ByteArray), e = .returned (.agg #[.int .i64 k, .int .i64 m, .int .i64 i, .int .i64 s, .string h, .string x]) ∧ h.size ≤ 32 ∧ x.size ≤ 20008 ∧ SrcAt w' g ∧ w.grownBy w' (some g)
theorem blk_grown {w w' : World} {j g : Nat} {o : Obj} (h : w.heap[j]? = some o) (hg : w.grownBy w' (some g)) (hne : j ≠ g) : w'.heap[j]? = some o :=
  (hg.block j (Array.getElem?_eq_some_iff.1 h).1 (by simpa using hne)).trans h
structure Fd (w : World) (g C : Nat) (k m i s : Int) (h x : ByteArray) (wr : World) : Prop where
  src : SrcAt wr g
  grown : w.grownBy wr (some g)
  res : wr.heap[w.heap.size]? = some zeroF
  box : wr.heap[C]? = some (.cells #[.int .i64 k, .int .i64 m, .int .i64 i, .int .i64 s, .string h, .string x] 24)
  hC : w.heap.size < C
  hg : g < w.heap.size
variable {w wr w' : World} {g C : Nat} {k m i s : Int} {h x : ByteArray}
theorem Fd.draw (f : Fd w g C k m i s h x wr) (hs : SrcAt w' g) (hg : wr.grownBy w' (some g)) : Fd w g C k m i s h x w' :=
  ⟨hs, grown_trans f.grown hg, blk_grown f.res hg (by have := f.hg; omega), blk_grown f.box hg (by have := f.hg; have := f.hC; omega), f.hC, f.hg⟩
theorem Fd.alloc (f : Fd w g C k m i s h x wr) (o : Obj) : Fd w g C k m i s h x (wr.alloc o) :=
  ⟨f.src.below ((Below.refl _ _).alloc (Nat.le_refl _) _), grown_trans f.grown (World.grownBy_alloc wr o _), blk_old f.res o, blk_old f.box o, f.hC, f.hg⟩
theorem Fd.drew (f : Fd w g C k m i s h x wr) : Fd w g C k m i s h x wr.drew :=
  ⟨f.src.below ⟨rfl, rfl, rfl, Nat.le_refl _, fun _ _ => rfl⟩, ⟨f.grown.os, f.grown.tape, f.grown.output, f.grown.size, f.grown.block⟩, f.res, f.box, f.hC, f.hg⟩
theorem Fd.below (f : Fd w g C k m i s h x wr) (hb : Below wr.heap.size wr w') : Fd w g C k m i s h x w' :=
  ⟨f.src.below hb, grown_trans f.grown (below_grew hb _), blk_below f.res hb, blk_below f.box hb, f.hC, f.hg⟩
theorem src_set {wr : World} {g : Nat} (h : SrcAt wr g) (p : Addr) (v : Value) (hp : g < p.block) : SrcAt (wr.setCell p v) g :=
  h.upto ((Below.refl (g + 1) wr).setCell hp v)
theorem Fd.set (f : Fd w g C k m i s h x wr) (j : Nat) (v : Value) (k' m' i' s' : Int) (h' x' : ByteArray) (e : (#[.int .i64 k, .int .i64 m, .int .i64 i, .int .i64 s, .string h, .string x] : Array Value).setIfInBounds j v = #[.int .i64 k', .int .i64 m', .int .i64 i', .int .i64 s', .string h', .string x']) : Fd w g C k' m' i' s' h' x' (wr.setCell ⟨C, j, none⟩ v) := by
  have h1 := f.hC
  have h2 := f.hg
  refine ⟨src_set f.src _ _ (by simp; omega), ⟨f.grown.os, f.grown.tape, f.grown.output, by simpa using f.grown.size, fun k hk hne => ?_⟩, blk_set f.res _ _ (by simp; omega), ?_, h1, h2⟩
  · rw [Below.heap_setCell _ _ _ _ (by simp; omega)]
    exact f.grown.block k hk hne
  · have q := block_setCell (i := j) f.box v
    rw [q, e]
theorem set_res {w wr : World} {g : Nat} (h : SrcAt wr g ∧ w.grownBy wr (some g)) (hg : g < w.heap.size) (j : Nat) (v : Value) : SrcAt (wr.setCell ⟨w.heap.size, j, none⟩ v) g ∧ w.grownBy (wr.setCell ⟨w.heap.size, j, none⟩ v) (some g) := by
  refine ⟨src_set h.1 _ _ hg, ⟨h.2.os, h.2.tape, h.2.output, by simpa using h.2.size, fun k hk hne => ?_⟩⟩
  rw [Below.heap_setCell _ _ _ _ (by simp; omega)]
  exact h.2.block k hk hne
theorem Fd.fin (f : Fd w g C k m i s h x wr) (hh : h.size ≤ 32) (hx : x.size ≤ 20008) (a b c d e2 e3 : Value) : DrewFrame w g (.returned (.agg #[.int .i64 k, .int .i64 m, .int .i64 i, .int .i64 s, .string h, .string x])) ((((((wr.setCell ⟨w.heap.size, 0, none⟩ a).setCell ⟨w.heap.size, 1, none⟩ b).setCell ⟨w.heap.size, 2, none⟩ c).setCell ⟨w.heap.size, 3, none⟩ d).setCell ⟨w.heap.size, 4, none⟩ e2).setCell ⟨w.heap.size, 5, none⟩ e3) := by
  have q0 := set_res (w := w) ⟨f.src, f.grown⟩ f.hg 0 a
  have q1 := set_res q0 f.hg 1 b
  have q2 := set_res q1 f.hg 2 c
  have q3 := set_res q2 f.hg 3 d
  have q4 := set_res q3 f.hg 4 e2
  have q5 := set_res q4 f.hg 5 e3
  exact ⟨k, m, i, s, h, x, rfl, hh, hx, q5.1, q5.2⟩
def pick (s : Int) (U : Nat) : Int := if U = 0 then -1 else if U = 1 then 12001 else s + 1
theorem pick_cell {w : World} {b : Nat} {s : Int} (hb : w.heap[b]? = some (.cells #[.int .i64 (-1), .int .i64 12001, .int .i64 (s + 1)] 2)) (U : Nat) (hU : U < 3) : w.cell? ⟨b, U, none⟩ = some (.int .i64 (pick s U)) := by
  obtain ⟨h0, h1, h2⟩ := cel3 hb
  obtain rfl | rfl | rfl : U = 0 ∨ U = 1 ∨ U = 2 := by omega
  · exact h0
  · exact h1
  · exact h2
theorem shard_pos (k n : Int) : 0 ≤ shard k n := by
  unfold code.shard
  split
  · rename_i h
    exact (code.quot_bd h.1 h.2).1
  · omega

set_option maxRecDepth 100000 in
set_option maxHeartbeats 4000000 in
theorem frame_any (g : Nat) (w : World) (h : SrcAt w g) :
    Calls Tryd.prog 14 #[.pointer (some ⟨g, 0, none⟩)] w fun e w' => DrewFrame w g e w' := by
  have hgl := h.lt
  have HC : Hid (∀ wx, SrcAt wx g → Calls Tryd.prog 27 #[.pointer (some ⟨g, 0, none⟩)] wx fun e w' => DrewCode wx g e w') := mkHid (fun wx hx => code_any g wx hx)
  have HN : Hid (∀ wx (m : Int), m ≤ 9223372036854775807 → SrcAt wx g → Calls Tryd.prog 23 #[.pointer (some ⟨g, 0, none⟩), .int .i64 m] wx fun e w' => Drew wx g m e w') := mkHid (fun wx m h1 h2 => n_any g m wx h1 h2)
  have HT : Hid (∀ wx (n : Nat), n ≤ 100000 → SrcAt wx g → Calls Tryd.prog 30 #[.pointer (some ⟨g, 0, none⟩), .int .i64 n] wx fun e w' => DrewText wx g n e w') := mkHid (fun wx n h1 h2 => bytes_any g n wx h1 h2)
  have HO : Hid (∀ wx (n : Int), n ≤ 9223372036854775807 → SrcAt wx g → Calls Tryd.prog 32 #[.pointer (some ⟨g, 0, none⟩), .int .i64 n] wx fun e w' => DrewBool wx g e w') := mkHid (fun wx n h1 h2 => one_any g n wx h1 h2)
  have H0 := mkHid (And.intro (h.below (below_alloc1 w zeroF)) (And.intro (World.grownBy_alloc w zeroF (some g)) (blk_new w zeroF w.heap.size rfl)))
  clear h
  go_enter Tryd.func14, Tryd.ntmps14
  go_wp2_with fail
  refine (HC.out _ H0.out.1).mono ?_
  rintro e w1 ⟨k, m, rfl, hk0, hk1, hm0, hm1, hs, hg⟩
  have H1 := mkHid (And.intro hs (And.intro (grown_trans H0.out.2.1 hg) (blk_grown H0.out.2.2 hg (by omega))))
  clear hs hg H0 HC
  have HM := mkHid (fun wx => max_any 1 (k + m) wx)
  generalize hmx : (if k + m < 1 then (1 : Int) else k + m) = mx at *
  have hmx0 : 1 ≤ mx := by rw [← hmx]; split <;> omega
  have hmx1 : mx ≤ 20 := by rw [← hmx]; split <;> omega
  clear hmx
  go_wp2_with fail
  refine (HM.out _).mono ?_
  rintro e w2' ⟨rfl, rfl⟩
  clear HM
  go_wp2_with fail
  refine (HN.out _ mx (by omega) H1.out.1).mono ?_
  rintro e w2 ⟨i, rfl, hi0, hi1, hi2, hs, hg⟩
  have hi3 : i < 20 := by
    by_cases h1 : 1 < mx
    · have := hi1 h1; omega
    · have := hi2 (by omega); omega
  have H2 := mkHid (And.intro hs (And.intro (grown_trans H1.out.2.1 hg) (blk_grown H1.out.2.2 hg (by omega))))
  clear hs hg H1 hi1 hi2
  go_wp2_with fail
  refine (HN.out _ 40 (by omega) H2.out.1).mono ?_
  rintro e w3 ⟨s, rfl, hs0, hs1, _, hs, hg⟩
  have hs1 := hs1 (by omega)
  have H3 := mkHid (And.intro hs (And.intro (grown_trans H2.out.2.1 hg) (blk_grown H2.out.2.2 hg (by omega))))
  clear hs hg H2
  go_wp2_with fail
  refine (HT.out _ 2 (by omega) H3.out.1).mono ?_
  rintro e w4 ⟨t, rfl, htl, hs, hg⟩
  have H4 := mkHid (And.intro hs (And.intro (grown_trans H3.out.2.1 hg) (blk_grown H3.out.2.2 hg (by omega))))
  have HDg := mkHid (fun wx => sha.digest_any t wx (by omega))
  have hdl : (digest t).size = 32 := digest_len (by omega)
  generalize digest t = dg at *
  clear hs hg H3 htl
  go_wp2_with fail
  refine (HDg.out _).mono ?_
  rintro e w5 ⟨rfl, hb⟩
  have hsz := H4.out.2.1.size
  have F5 : Hid (Fd w g w5.heap.size k m i s dg ⟨#[]⟩ (w5.alloc (.cells #[.int .i64 k, .int .i64 m, .int .i64 i, .int .i64 s, .string dg, .string ⟨#[]⟩] 24))) := mkHid (by
    have h1 := hb.size
    have h2 : w.heap.size < w4.heap.size := (Array.getElem?_eq_some_iff.1 H4.out.2.2).1
    exact ⟨(H4.out.1.below hb).below (below_alloc1 w5 _), grown_trans (grown_trans H4.out.2.1 (below_grew hb _)) (World.grownBy_alloc w5 _ _), blk_old (blk_below H4.out.2.2 hb) _, blk_new w5 _ _ rfl, by omega, hgl⟩)
  obtain ⟨N, hN⟩ : ∃ N : Nat, shard k s = (N : Int) := ⟨(shard k s).toNat, by have := shard_pos k s; omega⟩
  have hN2 : N ≤ 20007 := by have := frm.shard_le (k := k) (n := s); omega
  have HSh := mkHid (fun wx => code.specShard_any k s wx)
  rw [hN] at HSh
  obtain ⟨c0, c1, c2, c3, c4, c5⟩ := cel6 F5.out.box
  clear hb H4 HDg hsz hN
  go_wp2_with fail
  refine (HSh.out _).mono ?_
  rintro e w6 ⟨rfl, rfl⟩
  clear HSh
  go_wp2_with fail
  refine (HT.out _ N (by omega) F5.out.src).mono ?_
  rintro e w7 ⟨x, rfl, hxl, hs, hg⟩
  have F6 := mkHid (F5.out.draw hs hg)
  have F7 : Hid (Fd w g w5.heap.size k m i s dg x _) := mkHid (F6.out.set 5 (.string x) k m i s dg x rfl)
  have hx : x.size ≤ 20007 := by omega
  obtain ⟨c0, c1, c2, c3, c4, c5⟩ := cel6 F6.out.box
  have cf := unfrozen F6.out.box
  clear hs hg F5 HT hxl
  go_wp2_with fail
  refine (HO.out _ 12 (by omega) F7.out.src).mono ?_
  rintro e w8 ⟨b, rfl, hs, hg⟩
  have F8 := mkHid (F7.out.draw hs hg)
  clear hs hg F7 F6 HO c0 c1 c2 c3 c4 c5 cf
  cases b with
  | false =>
    obtain ⟨c0, c1, c2, c3, c4, c5⟩ := cel6 F8.out.box
    obtain ⟨r0, r1, r2, r3, r4, r5⟩ := cel6 F8.out.res
    have r6 := unfrozen F8.out.res
    have HP := mkHid (F8.out.fin (by omega) (by omega) (.int .i64 k) (.int .i64 m) (.int .i64 i) (.int .i64 s) (.string dg) (.string x))
    clear F8 HN
    go_wp2
    refine bodyPost_ret (v := .agg #[.int .i64 k, .int .i64 m, .int .i64 i, .int .i64 s, .string dg, .string x]) ?_ rfl ?_
    rotate_left
    · exact HP.out
    · simp [results, Tryd.results14, go_sem, r0, r1, r2, r3, r4, r5]
  | true =>
    go_wp2_with fail
    refine (HN.out _ 4 (by omega) F8.out.src).mono ?_
    rintro e w9 ⟨q, rfl, hq0, hq1, _, hs, hg⟩
    have hq1 := hq1 (by omega)
    have F9 := mkHid (F8.out.draw hs hg)
    clear hs hg F8
    obtain rfl | rfl | rfl | rfl : q = 0 ∨ q = 1 ∨ q = 2 ∨ q = 3 := by omega
    · have FA := mkHid (F9.out.alloc (.cells #[.int .i64 (-1), .int .i64 (k + m)] 2))
      have b9 := mkHid (blk_new w9 (.cells #[.int .i64 (-1), .int .i64 (k + m)] 2) w9.heap.size rfl)
      have h9 := F9.out.grown.size
      clear F9
      go_wp2_with fail
      refine (HN.out _ 2 (by omega) FA.out.src).mono ?_
      rintro e wa ⟨u, rfl, hu0, hu1, _, hs, hg⟩
      have hu1 := hu1 (by omega)
      have FB := mkHid (FA.out.draw hs hg)
      have bb := mkHid (blk_grown b9.out hg (by omega))
      obtain ⟨z0, z1⟩ := cel2 bb.out
      clear hs hg FA b9 bb h9
      obtain rfl | rfl : u = 0 ∨ u = 1 := by omega
      · skip
        obtain ⟨c0, c1, c2, c3, c4, c5⟩ := cel6 FB.out.box
        have cf := unfrozen FB.out.box
        obtain ⟨r0, r1, r2, r3, r4, r5⟩ := cel6 FB.out.res
        have r6 := unfrozen FB.out.res
        have hne : w.heap.size ≠ w5.heap.size := by have := FB.out.hC; omega
        have hne2 : w5.heap.size ≠ w.heap.size := fun e => hne e.symm
        have FZ := mkHid (FB.out.set 2 (.int .i64 (-1)) k m (-1) s dg x rfl)
        have HP := mkHid (FZ.out.fin (by first | omega | (simp; omega)) (by first | omega | (simp; omega)) (.int .i64 k) (.int .i64 m) (.int .i64 (-1)) (.int .i64 s) (.string dg) (.string x))
        clear FZ FB
        clear HN
        go_wp2
        refine bodyPost_ret (v := .agg #[.int .i64 k, .int .i64 m, .int .i64 (-1), .int .i64 s, .string dg, .string x]) ?_ rfl ?_
        rotate_left
        · exact HP.out
        · simp [results, Tryd.results14, go_sem, r0, r1, r2, r3, r4, r5, hne, hne2]
      · skip
        obtain ⟨c0, c1, c2, c3, c4, c5⟩ := cel6 FB.out.box
        have cf := unfrozen FB.out.box
        obtain ⟨r0, r1, r2, r3, r4, r5⟩ := cel6 FB.out.res
        have r6 := unfrozen FB.out.res
        have hne : w.heap.size ≠ w5.heap.size := by have := FB.out.hC; omega
        have hne2 : w5.heap.size ≠ w.heap.size := fun e => hne e.symm
        have FZ := mkHid (FB.out.set 2 (.int .i64 (k + m)) k m (k + m) s dg x rfl)
        have HP := mkHid (FZ.out.fin (by first | omega | (simp; omega)) (by first | omega | (simp; omega)) (.int .i64 k) (.int .i64 m) (.int .i64 (k + m)) (.int .i64 s) (.string dg) (.string x))
        clear FZ FB
        clear HN
        go_wp2
        refine bodyPost_ret (v := .agg #[.int .i64 k, .int .i64 m, .int .i64 (k + m), .int .i64 s, .string dg, .string x]) ?_ rfl ?_
        rotate_left
        · exact HP.out
        · simp [results, Tryd.results14, go_sem, r0, r1, r2, r3, r4, r5, hne, hne2]
    · skip
      have F9d := mkHid F9.out.drew
      have hws : IntKind.i64.wrap (s + 1) = s + 1 := by rw [IntKind.wrap_i64]; omega
      go_wp2_with fail
      refine wp_region_held_drew (S := fun _ => True) (by kernel_rfl) (by exact trivial) (fun hHeld => ?_)
      refine wpAnyH_take (i := 0) (oi := Oper.mk _ _ _ _ _ _) (v := ?_) rfl (by kernel_rfl) (by kernel_rfl) (by kernel_rfl) (fun _ _ _ h => h) (Or.inl ⟨by rfl, ?_⟩) (by assumption) ?_
      rotate_left
      · intro w hSw
        try dsimp only at hSw
        go_simp
        all_goals with_reducible rfl
      try simp only [Act.put, List.setIfInBounds_toArray, List.set_cons_zero, List.set_cons_succ]
      refine wpAnyH_take (i := 4) (oi := Oper.mk _ _ _ _ _ _) (v := ?_) rfl (by kernel_rfl) (by kernel_rfl) (by kernel_rfl) (fun _ _ _ h => h) (Or.inl ⟨by rfl, ?_⟩) (by assumption) ?_
      rotate_left
      · intro w hSw
        try dsimp only at hSw
        go_simp
        all_goals with_reducible rfl
      try simp only [Act.put, List.setIfInBounds_toArray, List.set_cons_zero, List.set_cons_succ]
      refine wpAnyH_ready (rs := [1, 5]) (by kernel_rfl) (by simp) ?_
      refine AllReadyH.cons (o := Oper.mk _ _ _ _ _ _) rfl (fun K hK => ?_) ?_
      · skip
        obtain ⟨c0, c1, c2, c3, c4, c5⟩ := cel6 F9d.out.box
        go_simp
        refine hK.out _ _ trivial (fun hHeld => ?_)
        clear hK K
        try simp only [Act.put, List.setIfInBounds_toArray, List.set_cons_zero, List.set_cons_succ]
        refine wpAnyH_take (i := 2) (oi := Oper.mk _ _ _ _ _ _) (v := ?_) rfl (by kernel_rfl) (by kernel_rfl) (by kernel_rfl) (fun _ _ _ h => h) (Or.inl ⟨by rfl, ?_⟩) (by assumption) ?_
        rotate_left
        · intro w hSw
          try dsimp only at hSw
          go_simp
          all_goals with_reducible rfl
        try simp only [Act.put, List.setIfInBounds_toArray, List.set_cons_zero, List.set_cons_succ]
        refine wpAnyH_ready (rs := [3, 5]) (by kernel_rfl) (by simp) ?_
        refine AllReadyH.cons (o := Oper.mk _ _ _ _ _ _) rfl (fun K hK => ?_) ?_
        · skip
          have FN := mkHid (F9.out.alloc (.cells #[.int .i64 (-1), .int .i64 12001, .int .i64 (s + 1)] 2))
          have bN := mkHid (blk_new w9 (.cells #[.int .i64 (-1), .int .i64 12001, .int .i64 (s + 1)] 2) w9.heap.size rfl)
          go_simp
          refine hK.out _ _ trivial (fun hHeld => ?_)
          clear hK K
          try simp only [Act.put, List.setIfInBounds_toArray, List.set_cons_zero, List.set_cons_succ]
          refine wpAnyH_ready (rs := [5]) (by kernel_rfl) (by simp) ?_
          refine AllReadyH.cons (o := Oper.mk _ _ _ _ _ _) rfl (fun K hK => ?_) AllReadyH.nil
          go_simp
          refine Calls.mono (HN.out _ 3 (by omega) (by first | exact FN.out.src | exact FN.out.drew.src)) ?_
          rintro e wa ⟨u, rfl, hu0, hu1, _, hs, hg⟩
          obtain ⟨U, rfl⟩ := Int.eq_ofNat_of_zero_le hu0
          have hU : U < 3 := by have := hu1 (by omega); omega
          have hUi : (U : Int) < 3 := by omega
          have FB := mkHid (Fd.draw (by first | exact FN.out | exact FN.out.drew) hs hg)
          have cz := pick_cell (s := s) (blk_grown (w := w9.alloc (.cells #[.int .i64 (-1), .int .i64 12001, .int .i64 (s + 1)] 2)) bN.out (by first | exact hg | exact grew_from hg rfl rfl rfl rfl) (by have := F9.out.grown.size; omega)) U hU
          clear hs hg hu0 hu1
          show K _ _
          refine hK.out _ _ trivial (fun hHeld => ?_)
          clear hK K
          try simp only [Act.put, List.setIfInBounds_toArray, List.set_cons_zero, List.set_cons_succ]
          refine wpAnyH_take (i := 6) (oi := Oper.mk _ _ _ _ _ _) (v := ?_) rfl (by kernel_rfl) (by kernel_rfl) (by kernel_rfl) (fun _ _ _ h => h) (Or.inl ⟨by rfl, ?_⟩) (by assumption) ?_
          rotate_left
          · intro w hSw
            try dsimp only at hSw
            go_simp
            all_goals with_reducible rfl
          try simp only [Act.put, List.setIfInBounds_toArray, List.set_cons_zero, List.set_cons_succ]
          refine wpAnyH_ready (rs := [7]) (by kernel_rfl) (by simp) ?_
          refine AllReadyH.cons (o := Oper.mk _ _ _ _ _ _) rfl (fun K hK => ?_) AllReadyH.nil
          skip
          go_simp
          refine hK.out _ _ trivial (fun hHeld => ?_)
          clear hK K
          try simp only [Act.put, List.setIfInBounds_toArray, List.set_cons_zero, List.set_cons_succ]
          refine wpAnyH_take (i := 8) (oi := Oper.mk _ _ _ _ _ _) (v := ?_) rfl (by kernel_rfl) (by kernel_rfl) (by kernel_rfl) (fun _ _ _ h => h) (Or.inl ⟨by rfl, ?_⟩) (by assumption) ?_
          rotate_left
          · intro w hSw
            try dsimp only at hSw
            go_simp
            all_goals with_reducible rfl
          try simp only [Act.put, List.setIfInBounds_toArray, List.set_cons_zero, List.set_cons_succ]
          refine wpAnyH_ready (rs := [9]) (by kernel_rfl) (by simp) ?_
          refine AllReadyH.cons (o := Oper.mk _ _ _ _ _ _) rfl (fun K hK => ?_) AllReadyH.nil
          have FE := mkHid FB.out
          obtain ⟨d0, d1, d2, d3, d4, d5⟩ := cel6 FE.out.box
          have cf := unfrozen FE.out.box
          go_simp
          refine hK.out _ _ trivial (fun hHeld => ?_)
          clear hK K
          try simp only [Act.put, List.setIfInBounds_toArray, List.set_cons_zero, List.set_cons_succ]
          refine wpAnyH_done (by kernel_rfl) ?_ _
          have FZ := mkHid (FE.out.set 3 (.int .i64 (pick s U)) k m i (pick s U) dg x rfl)
          have HP := mkHid (FZ.out.fin (by omega) (by omega) (.int .i64 k) (.int .i64 m) (.int .i64 i) (.int .i64 (pick s U)) (.string dg) (.string x))
          obtain ⟨r0, r1, r2, r3, r4, r5⟩ := cel6 FE.out.res
          have r6 := unfrozen FE.out.res
          have hne : w.heap.size ≠ w5.heap.size := by have := FE.out.hC; omega
          have hne2 : w5.heap.size ≠ w.heap.size := fun e => hne e.symm
          clear FZ FE FB HN
          go_wp2
          refine bodyPost_ret (v := .agg #[.int .i64 k, .int .i64 m, .int .i64 i, .int .i64 (pick s U), .string dg, .string x]) ?_ rfl ?_
          rotate_left
          · exact HP.out
          · simp [results, Tryd.results14, go_sem, r0, r1, r2, r3, r4, r5, hne, hne2]
        refine AllReadyH.cons (o := Oper.mk _ _ _ _ _ _) rfl (fun K hK => ?_) AllReadyH.nil
        go_simp
        refine Calls.mono (HN.out _ 3 (by omega) (by first | exact F9d.out.src | exact F9d.out.drew.src)) ?_
        rintro e wa ⟨u, rfl, hu0, hu1, _, hs, hg⟩
        obtain ⟨U, rfl⟩ := Int.eq_ofNat_of_zero_le hu0
        have hU : U < 3 := by have := hu1 (by omega); omega
        have hUi : (U : Int) < 3 := by omega
        have FB := mkHid (Fd.draw (by first | exact F9d.out | exact F9d.out.drew) hs hg)
        clear hs hg hu0 hu1
        show K _ _
        refine hK.out _ _ trivial (fun hHeld => ?_)
        clear hK K
        try simp only [Act.put, List.setIfInBounds_toArray, List.set_cons_zero, List.set_cons_succ]
        refine wpAnyH_ready (rs := [3]) (by kernel_rfl) (by simp) ?_
        refine AllReadyH.cons (o := Oper.mk _ _ _ _ _ _) rfl (fun K hK => ?_) AllReadyH.nil
        have FN := mkHid (FB.out.alloc (.cells #[.int .i64 (-1), .int .i64 12001, .int .i64 (s + 1)] 2))
        have cz := pick_cell (s := s) (blk_new wa (.cells #[.int .i64 (-1), .int .i64 12001, .int .i64 (s + 1)] 2) wa.heap.size rfl) U hU
        go_simp
        refine hK.out _ _ trivial (fun hHeld => ?_)
        clear hK K
        try simp only [Act.put, List.setIfInBounds_toArray, List.set_cons_zero, List.set_cons_succ]
        refine wpAnyH_take (i := 6) (oi := Oper.mk _ _ _ _ _ _) (v := ?_) rfl (by kernel_rfl) (by kernel_rfl) (by kernel_rfl) (fun _ _ _ h => h) (Or.inl ⟨by rfl, ?_⟩) (by assumption) ?_
        rotate_left
        · intro w hSw
          try dsimp only at hSw
          go_simp
          all_goals with_reducible rfl
        try simp only [Act.put, List.setIfInBounds_toArray, List.set_cons_zero, List.set_cons_succ]
        refine wpAnyH_ready (rs := [7]) (by kernel_rfl) (by simp) ?_
        refine AllReadyH.cons (o := Oper.mk _ _ _ _ _ _) rfl (fun K hK => ?_) AllReadyH.nil
        skip
        go_simp
        refine hK.out _ _ trivial (fun hHeld => ?_)
        clear hK K
        try simp only [Act.put, List.setIfInBounds_toArray, List.set_cons_zero, List.set_cons_succ]
        refine wpAnyH_take (i := 8) (oi := Oper.mk _ _ _ _ _ _) (v := ?_) rfl (by kernel_rfl) (by kernel_rfl) (by kernel_rfl) (fun _ _ _ h => h) (Or.inl ⟨by rfl, ?_⟩) (by assumption) ?_
        rotate_left
        · intro w hSw
          try dsimp only at hSw
          go_simp
          all_goals with_reducible rfl
        try simp only [Act.put, List.setIfInBounds_toArray, List.set_cons_zero, List.set_cons_succ]
        refine wpAnyH_ready (rs := [9]) (by kernel_rfl) (by simp) ?_
        refine AllReadyH.cons (o := Oper.mk _ _ _ _ _ _) rfl (fun K hK => ?_) AllReadyH.nil
        have FE := mkHid FN.out
        obtain ⟨d0, d1, d2, d3, d4, d5⟩ := cel6 FE.out.box
        have cf := unfrozen FE.out.box
        go_simp
        refine hK.out _ _ trivial (fun hHeld => ?_)
        clear hK K
        try simp only [Act.put, List.setIfInBounds_toArray, List.set_cons_zero, List.set_cons_succ]
        refine wpAnyH_done (by kernel_rfl) ?_ _
        have FZ := mkHid (FE.out.set 3 (.int .i64 (pick s U)) k m i (pick s U) dg x rfl)
        have HP := mkHid (FZ.out.fin (by omega) (by omega) (.int .i64 k) (.int .i64 m) (.int .i64 i) (.int .i64 (pick s U)) (.string dg) (.string x))
        obtain ⟨r0, r1, r2, r3, r4, r5⟩ := cel6 FE.out.res
        have r6 := unfrozen FE.out.res
        have hne : w.heap.size ≠ w5.heap.size := by have := FE.out.hC; omega
        have hne2 : w5.heap.size ≠ w.heap.size := fun e => hne e.symm
        clear FZ FE FB HN
        go_wp2
        refine bodyPost_ret (v := .agg #[.int .i64 k, .int .i64 m, .int .i64 i, .int .i64 (pick s U), .string dg, .string x]) ?_ rfl ?_
        rotate_left
        · exact HP.out
        · simp [results, Tryd.results14, go_sem, r0, r1, r2, r3, r4, r5, hne, hne2]
      refine AllReadyH.cons (o := Oper.mk _ _ _ _ _ _) rfl (fun K hK => ?_) AllReadyH.nil
      go_simp
      refine Calls.mono (HN.out _ 3 (by omega) (by first | exact F9d.out.src | exact F9d.out.drew.src)) ?_
      rintro e wa ⟨u, rfl, hu0, hu1, _, hs, hg⟩
      obtain ⟨U, rfl⟩ := Int.eq_ofNat_of_zero_le hu0
      have hU : U < 3 := by have := hu1 (by omega); omega
      have hUi : (U : Int) < 3 := by omega
      have FB := mkHid (Fd.draw (by first | exact F9d.out | exact F9d.out.drew) hs hg)
      clear hs hg hu0 hu1
      show K _ _
      refine hK.out _ _ trivial (fun hHeld => ?_)
      clear hK K
      try simp only [Act.put, List.setIfInBounds_toArray, List.set_cons_zero, List.set_cons_succ]
      refine wpAnyH_ready (rs := [1]) (by kernel_rfl) (by simp) ?_
      refine AllReadyH.cons (o := Oper.mk _ _ _ _ _ _) rfl (fun K hK => ?_) AllReadyH.nil
      obtain ⟨c0, c1, c2, c3, c4, c5⟩ := cel6 FB.out.box
      go_simp
      refine hK.out _ _ trivial (fun hHeld => ?_)
      clear hK K
      try simp only [Act.put, List.setIfInBounds_toArray, List.set_cons_zero, List.set_cons_succ]
      refine wpAnyH_take (i := 2) (oi := Oper.mk _ _ _ _ _ _) (v := ?_) rfl (by kernel_rfl) (by kernel_rfl) (by kernel_rfl) (fun _ _ _ h => h) (Or.inl ⟨by rfl, ?_⟩) (by assumption) ?_
      rotate_left
      · intro w hSw
        try dsimp only at hSw
        go_simp
        all_goals with_reducible rfl
      try simp only [Act.put, List.setIfInBounds_toArray, List.set_cons_zero, List.set_cons_succ]
      refine wpAnyH_ready (rs := [3]) (by kernel_rfl) (by simp) ?_
      refine AllReadyH.cons (o := Oper.mk _ _ _ _ _ _) rfl (fun K hK => ?_) AllReadyH.nil
      have FN := mkHid (FB.out.alloc (.cells #[.int .i64 (-1), .int .i64 12001, .int .i64 (s + 1)] 2))
      have cz := pick_cell (s := s) (blk_new wa (.cells #[.int .i64 (-1), .int .i64 12001, .int .i64 (s + 1)] 2) wa.heap.size rfl) U hU
      go_simp
      refine hK.out _ _ trivial (fun hHeld => ?_)
      clear hK K
      try simp only [Act.put, List.setIfInBounds_toArray, List.set_cons_zero, List.set_cons_succ]
      refine wpAnyH_take (i := 6) (oi := Oper.mk _ _ _ _ _ _) (v := ?_) rfl (by kernel_rfl) (by kernel_rfl) (by kernel_rfl) (fun _ _ _ h => h) (Or.inl ⟨by rfl, ?_⟩) (by assumption) ?_
      rotate_left
      · intro w hSw
        try dsimp only at hSw
        go_simp
        all_goals with_reducible rfl
      try simp only [Act.put, List.setIfInBounds_toArray, List.set_cons_zero, List.set_cons_succ]
      refine wpAnyH_ready (rs := [7]) (by kernel_rfl) (by simp) ?_
      refine AllReadyH.cons (o := Oper.mk _ _ _ _ _ _) rfl (fun K hK => ?_) AllReadyH.nil
      skip
      go_simp
      refine hK.out _ _ trivial (fun hHeld => ?_)
      clear hK K
      try simp only [Act.put, List.setIfInBounds_toArray, List.set_cons_zero, List.set_cons_succ]
      refine wpAnyH_take (i := 8) (oi := Oper.mk _ _ _ _ _ _) (v := ?_) rfl (by kernel_rfl) (by kernel_rfl) (by kernel_rfl) (fun _ _ _ h => h) (Or.inl ⟨by rfl, ?_⟩) (by assumption) ?_
      rotate_left
      · intro w hSw
        try dsimp only at hSw
        go_simp
        all_goals with_reducible rfl
      try simp only [Act.put, List.setIfInBounds_toArray, List.set_cons_zero, List.set_cons_succ]
      refine wpAnyH_ready (rs := [9]) (by kernel_rfl) (by simp) ?_
      refine AllReadyH.cons (o := Oper.mk _ _ _ _ _ _) rfl (fun K hK => ?_) AllReadyH.nil
      have FE := mkHid FN.out
      obtain ⟨d0, d1, d2, d3, d4, d5⟩ := cel6 FE.out.box
      have cf := unfrozen FE.out.box
      go_simp
      refine hK.out _ _ trivial (fun hHeld => ?_)
      clear hK K
      try simp only [Act.put, List.setIfInBounds_toArray, List.set_cons_zero, List.set_cons_succ]
      refine wpAnyH_done (by kernel_rfl) ?_ _
      have FZ := mkHid (FE.out.set 3 (.int .i64 (pick s U)) k m i (pick s U) dg x rfl)
      have HP := mkHid (FZ.out.fin (by omega) (by omega) (.int .i64 k) (.int .i64 m) (.int .i64 i) (.int .i64 (pick s U)) (.string dg) (.string x))
      obtain ⟨r0, r1, r2, r3, r4, r5⟩ := cel6 FE.out.res
      have r6 := unfrozen FE.out.res
      have hne : w.heap.size ≠ w5.heap.size := by have := FE.out.hC; omega
      have hne2 : w5.heap.size ≠ w.heap.size := fun e => hne e.symm
      clear FZ FE FB HN
      go_wp2
      refine bodyPost_ret (v := .agg #[.int .i64 k, .int .i64 m, .int .i64 i, .int .i64 (pick s U), .string dg, .string x]) ?_ rfl ?_
      rotate_left
      · exact HP.out
      · simp [results, Tryd.results14, go_sem, r0, r1, r2, r3, r4, r5, hne, hne2]
    · have hdl' : (dg.size : Int) = 32 := by omega
      have hd1 : (1 : Int) ≤ (dg.size : Int) := by omega
      have he : (dg.extract 1 32).size ≤ 32 := by simp; omega
      obtain ⟨c0, c1, c2, c3, c4, c5⟩ := cel6 F9.out.box
      have cf := unfrozen F9.out.box
      obtain ⟨r0, r1, r2, r3, r4, r5⟩ := cel6 F9.out.res
      have r6 := unfrozen F9.out.res
      have hne : w.heap.size ≠ w5.heap.size := by have := F9.out.hC; omega
      have hne2 : w5.heap.size ≠ w.heap.size := fun e => hne e.symm
      have FZ := mkHid (F9.out.set 4 (.string (dg.extract 1 32)) k m i s (dg.extract 1 32) x rfl)
      have HP := mkHid (FZ.out.fin he (by first | omega | (simp; omega)) (.int .i64 k) (.int .i64 m) (.int .i64 i) (.int .i64 s) (.string (dg.extract 1 32)) (.string x))
      clear FZ F9
      clear HN
      go_wp2
      refine bodyPost_ret (v := .agg #[.int .i64 k, .int .i64 m, .int .i64 i, .int .i64 s, .string (dg.extract 1 32), .string x]) ?_ rfl ?_
      rotate_left
      · exact HP.out
      · simp [results, Tryd.results14, go_sem, r0, r1, r2, r3, r4, r5, hne, hne2]
    · have hxi : (x.size : Int) ≤ 20007 := by omega
      have he : (x ++ (⟨#[120]⟩ : ByteArray)).size ≤ 20008 := by rw [ByteArray.size_append]; show x.size + 1 ≤ 20008; omega
      obtain ⟨c0, c1, c2, c3, c4, c5⟩ := cel6 F9.out.box
      have cf := unfrozen F9.out.box
      obtain ⟨r0, r1, r2, r3, r4, r5⟩ := cel6 F9.out.res
      have r6 := unfrozen F9.out.res
      have hne : w.heap.size ≠ w5.heap.size := by have := F9.out.hC; omega
      have hne2 : w5.heap.size ≠ w.heap.size := fun e => hne e.symm
      have FZ := mkHid (F9.out.set 5 (.string (x ++ ⟨#[120]⟩)) k m i s dg (x ++ ⟨#[120]⟩) rfl)
      have HP := mkHid (FZ.out.fin (by omega) he (.int .i64 k) (.int .i64 m) (.int .i64 i) (.int .i64 s) (.string dg) (.string (x ++ ⟨#[120]⟩)))
      clear FZ F9
      clear HN
      go_wp2
      refine bodyPost_ret (v := .agg #[.int .i64 k, .int .i64 m, .int .i64 i, .int .i64 s, .string dg, .string (x ++ ⟨#[120]⟩)]) ?_ rfl ?_
      rotate_left
      · exact HP.out
      · simp [results, Tryd.results14, go_sem, r0, r1, r2, r3, r4, r5, hne, hne2]
end Go.Proofs.YtjkbldmadcgddaaDoor.draw
namespace Go.Proofs.YtjkbldmadcgddaaDoor.draw
open Go.RowKit Go.Joins
open Go.Proofs.YtjkbldmadcgddaaDoor.base Go.Proofs.YtjkbldmadcgddaaDoor.blk Go.Proofs.YtjkbldmadcgddaaDoor.aid
open Go.Proofs.YtjkbldmadcgddaaDoor.frm (zeroF set6 cel6 below6 fbytes frmB_frame)
open Go.Proofs.YtjkbldmadcgddaaDoor.sha (digest)
set_option linter.unusedVariables false
set_option linter.unusedSimpArgs false

def DFrame (w : World) (e : Ending) (w' : World) : Prop :=
  ∃ (k m i s : Int) (h x : ByteArray), e = .returned (.agg #[.int .i64 k, .int .i64 m, .int .i64 i, .int .i64 s, .string h, .string x]) ∧ h.size ≤ 32 ∧ x.size ≤ 20008 ∧ Below w.heap.size w w'
set_option maxRecDepth 100000 in
set_option maxHeartbeats 2000000 in
theorem drawFrameBytes_any (a : Option Addr) (len cap : Nat) (w : World) (hl : len ≤ 1048576) (hr : Row w a len) :
    Calls Tryd.prog 5 #[.slice a len cap] w fun e w' => DFrame w e w' := by
  have HS := mkHid (source_any a len cap (w.alloc zeroF) hl (hr.below (below_alloc1 w zeroF)))
  have B0 := mkHid (below_alloc1 w zeroF)
  have b0 := mkHid (blk_new w zeroF w.heap.size rfl)
  have hz : (w.alloc zeroF).heap.size = w.heap.size + 1 := by simp
  unfold Made at HS
  rw [hz] at HS
  clear hr
  go_enter Tryd.func5, Tryd.ntmps5
  go_wp2_with fail
  refine HS.out.mono ?_
  rintro e w1 ⟨rfl, hs1, hb1⟩
  have HF := mkHid (frame_any (w.heap.size + 1) w1 hs1)
  have hb1' : Below (w.alloc zeroF).heap.size (w.alloc zeroF) w1 := by rw [hz]; exact hb1
  have B1 := mkHid (B0.out.trans (hb1'.mono B0.out.size))
  have b1 := mkHid (blk_below b0.out hb1')
  have hs1z : w.heap.size + 1 ≤ w1.heap.size := by have := hb1'.size; omega
  clear hs1 hb1 hb1' HS B0 b0 hz
  go_wp2_with fail
  refine HF.out.mono ?_
  rintro e w2 ⟨k, m, i, s, h, x, rfl, hh, hx, hs2, hg2⟩
  have B2 := mkHid (B1.out.trans (grown_below hg2 (by omega) (by omega)))
  have b2 := mkHid (blk_grown b1.out hg2 (by omega))
  obtain ⟨c0, c1, c2, c3, c4, c5⟩ := cel6 b2.out
  have cf := unfrozen b2.out
  have HB := mkHid (below6 B2.out (Nat.le_refl _) (.int .i64 k) (.int .i64 m) (.int .i64 i) (.int .i64 s) (.string h) (.string x))
  clear hs2 hg2 HF B1 B2 b1 b2
  go_wp2
  refine bodyPost_ret (v := .agg #[.int .i64 k, .int .i64 m, .int .i64 i, .int .i64 s, .string h, .string x]) ?_ rfl ?_
  rotate_left
  · exact ⟨k, m, i, s, h, x, rfl, hh, hx, HB.out⟩
  · simp [results, Tryd.results5, go_sem, c0, c1, c2, c3, c4, c5]
def DText (w : World) (e : Ending) (w' : World) : Prop := ∃ t : ByteArray, e = .returned (.string t) ∧ t.size ≤ 40000 ∧ Below w.heap.size w w'
theorem fbytes_len (k m i s : Int) (h x : ByteArray) : (fbytes k m i s h x).size ≤ 20000 := by
  unfold frm.fbytes
  split
  · rename_i hf
    obtain ⟨_, _, _, _, _, _, _, _, z1, z2, z3⟩ := frmB_frame hf
    have z4 := frm.digest_len (t := frm.headB k m i s h ++ x) (by rw [ByteArray.size_append]; omega)
    unfold frm.frameB
    rw [ByteArray.size_append, ByteArray.size_append]
    omega
  · exact Nat.zero_le _
set_option maxRecDepth 100000 in
set_option maxHeartbeats 2000000 in
theorem drawFrameRead_any (a : Option Addr) (len cap : Nat) (w : World) (hl : len ≤ 1048576) (hr : Row w a len) :
    Calls Tryd.prog 10 #[.slice a len cap] w fun e w' => DText w e w' := by
  have HS := mkHid (source_any a len cap w hl hr)
  clear hr
  go_enter Tryd.func10, Tryd.ntmps10
  go_wp2_with fail
  refine HS.out.mono ?_
  rintro e w1 ⟨rfl, hs1, hb1⟩
  have HF := mkHid (frame_any w.heap.size w1 hs1)
  have B1 := mkHid hb1
  clear hs1 hb1 HS
  go_wp2_with fail
  refine HF.out.mono ?_
  rintro e w2 ⟨k, m, i, s, h, x, rfl, hh, hx, hs2, hg2⟩
  have B2 := mkHid (And.intro (B1.out.trans (grown_below hg2 (Nat.le_refl _) B1.out.size)) hs2)
  have HB := mkHid (fun wx => frm.bytesS_any k m i s h x wx (by omega) (by omega))
  have hfl := fbytes_len k m i s h x
  generalize fbytes k m i s h x = t at *
  clear hs2 hg2 HF B1
  go_wp2_with fail
  refine (HB.out _).mono ?_
  rintro e w3 ⟨rfl, hb3⟩
  have B3 := mkHid (And.intro (B2.out.1.trans (hb3.mono B2.out.1.size)) (B2.out.2.below hb3))
  have hg0 : w.heap.size < w3.heap.size := B3.out.2.lt
  clear hb3 B2 HB
  go_wp2_with fail
  refine (n_any w.heap.size 5 w3 (by omega) B3.out.2).mono ?_
  rintro e w4 ⟨q, rfl, hq0, hq1, _, hs4, hg4⟩
  have hq1 := hq1 (by omega)
  have B4 := mkHid (And.intro (B3.out.1.trans (grown_below hg4 (Nat.le_refl _) B3.out.1.size)) hs4)
  clear hs4 hg4 B3
  by_cases h0 : q = 0
  · subst h0
    go_wp2_with fail
    refine (spoil_any w.heap.size t w4 (by omega) B4.out.2).mono ?_
    rintro e w5 ⟨u, rfl, hu, hs5, hg5⟩
    have B5 := mkHid (B4.out.1.trans (grown_below hg5 (Nat.le_refl _) B4.out.1.size))
    clear hs5 hg5 B4
    go_wp2
    go_ret
    exact ⟨u, rfl, by omega, B5.out⟩
  by_cases h1 : q = 1
  · subst h1
    have hti : (t.size : Int) ≤ 20000 := by omega
    go_wp2_with fail
    refine (n_any w.heap.size ((t.size : Int) + 1) w4 (by omega) B4.out.2).mono ?_
    rintro e w5 ⟨r, rfl, hr0, hr1, hr2, hs5, hg5⟩
    obtain ⟨R, rfl⟩ := Int.eq_ofNat_of_zero_le hr0
    have hR : R ≤ t.size := by
      by_cases h2 : 1 < (t.size : Int) + 1
      · have := hr1 h2; omega
      · have := hr2 (by omega); omega
    have hRi : (R : Int) ≤ (t.size : Int) := by omega
    have B5 := mkHid (B4.out.1.trans (grown_below hg5 (Nat.le_refl _) B4.out.1.size))
    clear hs5 hg5 B4 hr0 hr1 hr2
    go_wp2
    go_ret
    exact ⟨_, rfl, by simp; omega, B5.out⟩
  · have q0 : (q == 0) = false := by simpa using h0
    have q1 : (q == 1) = false := by simpa using h1
    go_wp2
    go_ret
    exact ⟨t, rfl, by omega, B4.out.1⟩
end Go.Proofs.YtjkbldmadcgddaaDoor.draw
