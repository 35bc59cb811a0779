/-
  What impl.PackRead answers and leaves, where the program's PackRight answers as told. Conditions: at most 1,048,576 bytes; the numbers of the rounds are there.
-/
import Derived.Test.YtfochhnaodgpeaaDoorRdBl
namespace Go.Proofs.YtfochhnaodgpeaaDoor.rdr
open Go.RowKit Go.Joins
open Go.Proofs.YtfochhnaodgpeaaDoor.base Go.Proofs.YtfochhnaodgpeaaDoor.blk Go.Proofs.YtfochhnaodgpeaaDoor.aid
open Go.Proofs.YtfochhnaodgpeaaDoor.pack (bKey bRight recAt keyAt reads packR readT)
open Go.Proofs.YtfochhnaodgpeaaDoor.row (bl en Rd Own OwnV)
open Go.Proofs.YtfochhnaodgpeaaDoor.sha (digest GV)
set_option linter.unusedVariables false
set_option linter.unusedSimpArgs false

/-- what the program's PackRight is asked -/
def IPackRight : Prop := ∀ (a : Option Addr) (c : Nat) (l : List (Int × ByteArray)) (w : World), l.length ≤ 1048576 → (∀ b ∈ l, b.2.size ≤ 1048576) → Rd w a (bl l) → GV w →
  Calls Tryd.prog 13 #[.slice a l.length c] w fun e w' => e = .returned (.bool (packR l)) ∧ Below w.heap.size w w'
/-- a BlobsOut of its own is the answer -/
def OPost (w : World) (o : List (Int × ByteArray) × Int × Int) (e : Ending) (w' : World) : Prop :=
  ∃ a c, e = .returned (.agg #[.slice a o.1.length c, .int .i64 o.2.1, .int .i64 o.2.2]) ∧ OwnV 37 w' a (bl o.1) ∧ (∀ b o s, a = some ⟨b, o, s⟩ → w.heap.size ≤ b) ∧ Below w.heap.size w w'

theorem set3_block {w : World} {g : Nat} {a b c : Value} {T : TypeId} (h : w.heap[g]? = some (.cells #[a, b, c] T)) (x y z : Value) : (((w.setCell ⟨g, 0, none⟩ x).setCell ⟨g, 1, none⟩ y).setCell ⟨g, 2, none⟩ z).heap[g]? = some (.cells #[x, y, z] T) := by
  have h0 := block_setCell (i := 0) h x
  have h1 := block_setCell (i := 1) h0 y
  have h2 := block_setCell (i := 2) h1 z
  rw [h2]
  rfl
theorem ownV_set3 {T : TypeId} {w : World} {a : Option Addr} {g : Nat} {xs : List Value} (h : OwnV T w a xs) (hne : ∀ b o s, a = some ⟨b, o, s⟩ → b ≠ g) (x y z : Value) : OwnV T (((w.setCell ⟨g, 0, none⟩ x).setCell ⟨g, 1, none⟩ y).setCell ⟨g, 2, none⟩ z) a xs := by
  rcases h with rfl | ⟨b, rfl, ho⟩
  · exact .inl rfl
  · have hb := hne b 0 none rfl
    refine .inr ⟨b, rfl, ho.block ?_⟩
    rw [Below.heap_setCell _ _ _ b (by simpa using hb), Below.heap_setCell _ _ _ b (by simpa using hb), Below.heap_setCell _ _ _ b (by simpa using hb)]
theorem assert_nil (w : World) : (Instr.typeAssert .nilIface 20 81 true).run Tryd.prog w = .ok (.tuple #[.agg #[.int .i64 0], .bool false]) w := by kernel_rfl
theorem assert_is (a : Int) (w : World) : (Instr.typeAssert (.iface 81 (.agg #[.int .i64 a])) 20 81 true).run Tryd.prog w = .ok (.tuple #[.agg #[.int .i64 a], .bool true]) w := by kernel_rfl

set_option maxRecDepth 100000 in
theorem pcatch_idle (p : Addr) (w : World) :
    CallsD Tryd.prog 48 #[.pointer (some p)] .returning w fun e u' w' => e = .returned (.tuple #[]) ∧ u' = .returning ∧ Below w.heap.size w w' := by
  have ha := assert_nil
  refine callsD_of_wpS Tryd.func48 rfl fun c₀ cs hu => ?_
  simp only [Tryd.ntmps48, List.size_toArray, List.length_cons, List.length_nil, Nat.reduceAdd, Nat.reduceSub, Array.replicate_succ, Array.replicate_zero, List.push_toArray, List.append_toArray, List.nil_append, List.cons_append]
  apply wpS_seq
  apply wpS_region
  simp [wpOpsS, go_sem, recoverD, hu, Exit.thenS, ha]
  apply wpS_seq
  apply wpS_region
  simp [wpOpsS, go_sem, Exit.thenS]
  refine wpS_cond (t := false) (by simp [Act.eval]) ?_
  simp only [Bool.false_eq_true, if_false]
  refine wpS_of_wp (wp_skip ?_)
  have hB := below_alloc1 w (.cells #[.int .i64 0] 81)
  cases c₀
  simp_all [bodyPostS, results, Tryd.results48]

set_option maxRecDepth 100000 in
theorem pcatch_panicking (g : Nat) (v : Value) (x y a : Int) (older : List PanicEntry) (w : World) (h : w.heap[g]? = some (.cells #[v, .int .i64 x, .int .i64 y] 28)) :
    CallsD Tryd.prog 48 #[.pointer (some ⟨g, 0, none⟩)] (.panicking ({ v := .iface 81 (.agg #[.int .i64 a]), recovered := false } :: older)) w fun e u' w' =>
      e = .returned (.tuple #[]) ∧ u' = .panicking ({ v := .iface 81 (.agg #[.int .i64 a]), recovered := true } :: older) ∧ w'.heap[g]? = some (.cells #[.slice none 0 0, .int .i64 a, .int .i64 3] 28) ∧ w.grownBy w' (some g) := by
  have ha := assert_is a
  obtain ⟨c0, c1, c2⟩ : (∀ o, (w.alloc o).cell? ⟨g, 0, none⟩ = some v) ∧ (∀ o, (w.alloc o).cell? ⟨g, 1, none⟩ = some (.int .i64 x)) ∧ (∀ o, (w.alloc o).cell? ⟨g, 2, none⟩ = some (.int .i64 y)) :=
    ⟨fun o => (cel3 (blk_old h o)).1, fun o => (cel3 (blk_old h o)).2.1, fun o => (cel3 (blk_old h o)).2.2⟩
  have hf : ∀ o j, (w.alloc o).frozen? ⟨g, j, none⟩ = false := fun o j => unfrozen (blk_old h o) j
  refine callsD_of_wpS Tryd.func48 rfl fun c₀ cs hu => ?_
  simp only [Tryd.ntmps48, List.size_toArray, List.length_cons, List.length_nil, Nat.reduceAdd, Nat.reduceSub, Array.replicate_succ, Array.replicate_zero, List.push_toArray, List.append_toArray, List.nil_append, List.cons_append]
  apply wpS_seq
  apply wpS_region
  simp [wpOpsS, go_sem, recoverD, hu, Exit.thenS, ha]
  apply wpS_seq
  apply wpS_region
  simp [wpOpsS, go_sem, Exit.thenS]
  refine wpS_cond (t := true) (by simp [Act.eval]) ?_
  simp only [if_true]
  apply wpS_region
  simp [wpOpsS, go_sem, c0, c1, c2, hf]
  refine ⟨rfl, _, rfl, .tuple #[], by simp [results, Tryd.results48, go_sem], rfl, rfl, ?_, ?_⟩
  · exact set3_block (blk_old h _) _ _ _
  · exact grew_grew (grew_grew (grew_grew (below_grew (below_alloc1 w _) _) (grew_cell _ _ _ _)) (grew_cell _ _ _ _)) (grew_cell _ _ _ _)

set_option maxRecDepth 100000 in
set_option maxHeartbeats 2000000 in
theorem read_err (s : ByteArray) (a : Nat) (w : World) (hs : s.size ≤ 20000) (I : himpl.IDigest) (hG : GV w) (hR : reads s 0 = .error a) :
    Calls Tryd.prog 14 #[.string s] w (OPost w ([], (a : Int), 3)) := by
  have hmf : ∀ (fn : Fn) (first cap : Array Value) (w : World), (Instr.makeFunc fn first cap).run Tryd.prog w = .ok (.func fn first cap) w := fun _ _ _ _ => rfl
  have h1 : (s.size : Int) ≤ 20000 := by omega
  have HB : Hid (Calls Tryd.prog 49 #[.string s] (w.alloc (.cells #[.slice none 0 0, .int .i64 0, .int .i64 0] 28)) fun e w' => e = .panicked [{ v := .iface 81 (.agg #[.int .i64 a]), recovered := false }] ∧ Below (w.alloc (.cells #[.slice none 0 0, .int .i64 0, .int .i64 0] 28)).heap.size (w.alloc (.cells #[.slice none 0 0, .int .i64 0, .int .i64 0] 28)) w') :=
    mkHid ((readBlobs_any s _ hs I (hG.below (below_alloc1 w _) hG.lt)).mono (by intro e w' h; unfold RPost at h; rw [hR] at h; exact h))
  go_enter_defers Tryd.func14, Tryd.ntmps14
  go_wp2_with fail
  refine HB.out.mono ?_
  rintro e w1 ⟨rfl, hb1⟩
  have k1 := blk_below (blk_new w (.cells #[.slice none 0 0, .int .i64 0, .int .i64 0] 28) w.heap.size rfl) hb1
  have B1 := below_allocs (os := [_]) hb1
  refine leaves_cons (f := 48) (args := #[.pointer (some ⟨w.heap.size, 0, none⟩)]) (by simp) (by simp [go_sem]) ?_
  refine (pcatch_panicking w.heap.size _ _ _ a [] _ k1).mono ?_
  rintro e u' w2 ⟨rfl, rfl, k2, hg2⟩
  obtain ⟨q0, q1, q2⟩ := cel3 k2
  have B2 := below_of_grew B1 B1.size hg2 (Nat.le_refl _)
  refine ⟨.agg #[.slice none 0 0, .int .i64 (a : Int), .int .i64 3], ?_, none, 0, rfl, .inl rfl, fun b o s e => by simp at e, B2⟩
  simp [results, Tryd.results14, go_sem, q0, q1, q2]

set_option maxRecDepth 100000 in
set_option maxHeartbeats 2000000 in
theorem read_ok (R : IPackRight) (s : ByteArray) (l : List (Int × ByteArray)) (w : World) (hs : s.size ≤ 20000) (I : himpl.IDigest) (hG : GV w) (hR : reads s 0 = .ok l) :
    Calls Tryd.prog 14 #[.string s] w (OPost w (if packR l = true then (l, 0, 0) else ([], 0, 1))) := by
  have hmf : ∀ (fn : Fn) (first cap : Array Value) (w : World), (Instr.makeFunc fn first cap).run Tryd.prog w = .ok (.func fn first cap) w := fun _ _ _ _ => rfl
  have h1 : (s.size : Int) ≤ 20000 := by omega
  have hl := pack.reads_len hR
  have HB : Hid (Calls Tryd.prog 49 #[.string s] (w.alloc (.cells #[.slice none 0 0, .int .i64 0, .int .i64 0] 28)) fun e w' => ∃ a c, e = .returned (.slice a l.length c) ∧ OwnV 37 w' a (bl l) ∧ (∀ b o s, a = some ⟨b, o, s⟩ → w.heap.size + 1 ≤ b) ∧ Below (w.alloc (.cells #[.slice none 0 0, .int .i64 0, .int .i64 0] 28)).heap.size (w.alloc (.cells #[.slice none 0 0, .int .i64 0, .int .i64 0] 28)) w') :=
    mkHid ((readBlobs_any s _ hs I (hG.below (below_alloc1 w _) hG.lt)).mono (by intro e w' h; unfold RPost at h; rw [hR] at h; obtain ⟨a, c, e1, e2, e3, e4⟩ := h; exact ⟨a, c, e1, e2, fun b o s e => by have := e3 b o s e; simp at this; omega, e4⟩))
  have HP := mkHid (fun wx a c (hr : Rd wx a (bl l)) (hb : Below w.heap.size w wx) => R a c l wx (by omega) (fun b hb => by have := hl.2 b hb; omega) hr (hG.below hb hG.lt))
  clear R I hG hR
  cases hp : packR l
  · rw [hp] at HP
    rw [if_neg (by simp)]
    go_enter_defers Tryd.func14, Tryd.ntmps14
    go_wp2_with fail
    refine HB.out.mono ?_
    rintro e w1 ⟨a1, c1, rfl, ho1, hf1, hb1⟩
    have K1 := mkHid (And.intro (below_allocs (os := [_]) hb1) (And.intro (blk_below (blk_new w (.cells #[.slice none 0 0, .int .i64 0, .int .i64 0] 28) w.heap.size rfl) hb1) ho1.rd))
    clear hb1 ho1 hf1 HB
    go_wp2_with fail
    refine (HP.out _ _ _ K1.out.2.2 K1.out.1).mono ?_
    rintro e w2 ⟨rfl, hb2⟩
    have K2 := mkHid (And.intro (K1.out.1.trans (hb2.mono K1.out.1.size)) (blk_below K1.out.2.1 hb2))
    obtain ⟨q0, q1, q2⟩ := cel3 K2.out.2
    have qf := unfrozen K2.out.2
    clear hb2 K1 HP
    have k3 := set3_block K2.out.2 (.slice none 0 0) (.int .i64 0) (.int .i64 1)
    have B3 := below_set3 (g := w.heap.size) K2.out.1 (Nat.le_refl _) K2.out.1.size (.slice none 0 0) (.int .i64 0) (.int .i64 1)
    have K3 := mkHid (And.intro B3 k3)
    clear k3 B3
    go_wp2
    generalize ((w2.setCell ⟨w.heap.size, 0, none⟩ (.slice none 0 0)).setCell ⟨w.heap.size, 1, none⟩ (.int .i64 0)).setCell ⟨w.heap.size, 2, none⟩ (.int .i64 1) = W3 at *
    refine leaves_cons (f := 48) (args := #[.pointer (some ⟨w.heap.size, 0, none⟩)]) (by simp) (by simp [go_sem]) ?_
    refine (pcatch_idle ⟨w.heap.size, 0, none⟩ W3).mono ?_
    rintro e u' w4 ⟨rfl, rfl, hb4⟩
    obtain ⟨r0, r1, r2⟩ := cel3 (blk_below K3.out.2 hb4)
    refine ⟨.agg #[.slice none 0 0, .int .i64 0, .int .i64 1], ?_, none, 0, rfl, .inl rfl, fun b o s e => by simp at e, K3.out.1.trans (hb4.mono K3.out.1.size)⟩
    simp [results, Tryd.results14, go_sem, r0, r1, r2]
  · rw [hp] at HP
    rw [if_pos rfl]
    go_enter_defers Tryd.func14, Tryd.ntmps14
    go_wp2_with fail
    refine HB.out.mono ?_
    rintro e w1 ⟨a1, c1, rfl, ho1, hf1, hb1⟩
    have K1 := mkHid (And.intro (below_allocs (os := [_]) hb1) (And.intro (blk_below (blk_new w (.cells #[.slice none 0 0, .int .i64 0, .int .i64 0] 28) w.heap.size rfl) hb1) ho1))
    have HF := mkHid hf1
    clear hb1 ho1 hf1 HB
    go_wp2_with fail
    refine (HP.out _ _ _ K1.out.2.2.rd K1.out.1).mono ?_
    rintro e w2 ⟨rfl, hb2⟩
    have K2 := mkHid (And.intro (K1.out.1.trans (hb2.mono K1.out.1.size)) (And.intro (blk_below K1.out.2.1 hb2) (K1.out.2.2.below hb2)))
    obtain ⟨q0, q1, q2⟩ := cel3 K2.out.2.1
    have qf := unfrozen K2.out.2.1
    clear hb2 K1 HP
    have k3 := set3_block K2.out.2.1 (.slice a1 l.length c1) (.int .i64 0) (.int .i64 0)
    have B3 := below_set3 (g := w.heap.size) K2.out.1 (Nat.le_refl _) K2.out.1.size (.slice a1 l.length c1) (.int .i64 0) (.int .i64 0)
    have O3 := ownV_set3 (g := w.heap.size) K2.out.2.2 (fun b o s e => by have := HF.out b o s e; omega) (.slice a1 l.length c1) (.int .i64 0) (.int .i64 0)
    have K3 := mkHid (And.intro B3 (And.intro k3 O3))
    clear k3 B3 O3
    go_wp2
    generalize ((w2.setCell ⟨w.heap.size, 0, none⟩ (.slice a1 l.length c1)).setCell ⟨w.heap.size, 1, none⟩ (.int .i64 0)).setCell ⟨w.heap.size, 2, none⟩ (.int .i64 0) = W3 at *
    refine leaves_cons (f := 48) (args := #[.pointer (some ⟨w.heap.size, 0, none⟩)]) (by simp) (by simp [go_sem]) ?_
    refine (pcatch_idle ⟨w.heap.size, 0, none⟩ W3).mono ?_
    rintro e u' w4 ⟨rfl, rfl, hb4⟩
    obtain ⟨r0, r1, r2⟩ := cel3 (blk_below K3.out.2.1 hb4)
    refine ⟨.agg #[.slice a1 l.length c1, .int .i64 0, .int .i64 0], ?_, a1, c1, rfl, K3.out.2.2.below hb4, fun b o s e => Nat.le_of_succ_le (HF.out b o s e), K3.out.1.trans (hb4.mono K3.out.1.size)⟩
    simp [results, Tryd.results14, go_sem, r0, r1, r2]

set_option maxRecDepth 100000 in
theorem read_impl (R : IPackRight) (s : ByteArray) (w : World) (hs : s.size ≤ 1048576) (I : himpl.IDigest) (hG : GV w) :
    Calls Tryd.prog 14 #[.string s] w (OPost w (readT s)) := by
  by_cases h : 20000 < (s.size : Int)
  · have E : readT s = ([], 0, 2) := by unfold readT; rw [if_pos (by omega)]
    rw [E]
    clear E
    go_enter_defers Tryd.func14, Tryd.ntmps14
    go_wp2
    refine ⟨.agg #[.slice none 0 0, .int .i64 0, .int .i64 2], ?_, none, 0, rfl, .inl rfl, fun b o s e => by simp at e, below_alloc1 _ _⟩
    simp [results, Tryd.results14, go_sem]
  · cases hR : reads s 0 with
    | error a =>
      have E : readT s = ([], (a : Int), 3) := by unfold readT; rw [if_neg (by omega), hR]
      rw [E]
      exact read_err s a w (by omega) I hG hR
    | ok l =>
      have E : readT s = if packR l = true then (l, 0, 0) else ([], 0, 1) := by unfold readT; rw [if_neg (by omega), hR]
      rw [E]
      exact read_ok R s l w (by omega) I hG hR
end Go.Proofs.YtfochhnaodgpeaaDoor.rdr
