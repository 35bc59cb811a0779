/-
  What impl.PackRead answers and leaves, where the program's PackRight answers as told. Conditions: at most 1,048,576 bytes; the numbers of the rounds are there.
  What spec.PackRead answers and leaves, where spec.l07At answers as told. Condition: at most 1,048,576 bytes.
-/
import Derived.Test.YtlmhdebjmkcanabDoorZRdA
import Derived.Test.YtlmhdebjmkcanabDoorZScanS
import Derived.Test.YtlmhdebjmkcanabDoorZPackB
namespace Go.Proofs.YtlmhdebjmkcanabDoor.rdr
open Go.RowKit Go.Joins
open Go.Proofs.YtlmhdebjmkcanabDoor.base Go.Proofs.YtlmhdebjmkcanabDoor.blk Go.Proofs.YtlmhdebjmkcanabDoor.aid
open Go.Proofs.YtlmhdebjmkcanabDoor.pack (bKey bRight recAt keyAt reads packR readT)
open Go.Proofs.YtlmhdebjmkcanabDoor.row (bl en Rd Own OwnV)
open Go.Proofs.YtlmhdebjmkcanabDoor.sha (digest GV)
set_option linter.unusedVariables false
set_option linter.unusedSimpArgs false

/-- what the program's PackRight is asked -/
def IPackRight : Prop := ∀ (a : Option Addr) (c : Nat) (l : List (Int × ByteArray)) (w : World), l.length ≤ 1048576 → (∀ b ∈ l, b.2.size ≤ 1048576) → Rd w a (bl l) → GV w →
  Calls Tryd.prog 25 #[.slice a l.length c] w fun e w' => e = .returned (.bool (packR l)) ∧ Below w.heap.size w w'
/-- a BlobsOut of its own is the answer -/
def OPost (w : World) (o : List (Int × ByteArray) × Int × Int) (e : Ending) (w' : World) : Prop :=
  ∃ a c, e = .returned (.agg #[.slice a o.1.length c, .int .i64 o.2.1, .int .i64 o.2.2]) ∧ OwnV 37 w' a (bl o.1) ∧ (∀ b o s, a = some ⟨b, o, s⟩ → w.heap.size ≤ b) ∧ Below w.heap.size w w'

theorem set3_block {w : World} {g : Nat} {a b c : Value} {T : TypeId} (h : w.heap[g]? = some (.cells #[a, b, c] T)) (x y z : Value) : (((w.setCell ⟨g, 0, none⟩ x).setCell ⟨g, 1, none⟩ y).setCell ⟨g, 2, none⟩ z).heap[g]? = some (.cells #[x, y, z] T) := by
  have h0 := block_setCell (i := 0) h x
  have h1 := block_setCell (i := 1) h0 y
  have h2 := block_setCell (i := 2) h1 z
  rw [h2]
  rfl
theorem ownV_set3 {T : TypeId} {w : World} {a : Option Addr} {g : Nat} {xs : List Value} (h : OwnV T w a xs) (hne : ∀ b o s, a = some ⟨b, o, s⟩ → b ≠ g) (x y z : Value) : OwnV T (((w.setCell ⟨g, 0, none⟩ x).setCell ⟨g, 1, none⟩ y).setCell ⟨g, 2, none⟩ z) a xs := by
  rcases h with rfl | ⟨b, rfl, ho⟩
  · exact .inl rfl
  · have hb := hne b 0 none rfl
    refine .inr ⟨b, rfl, ho.block ?_⟩
    rw [Below.heap_setCell _ _ _ b (by simpa using hb), Below.heap_setCell _ _ _ b (by simpa using hb), Below.heap_setCell _ _ _ b (by simpa using hb)]
theorem assert_nil (w : World) : (Instr.typeAssert .nilIface 20 49 true).run Tryd.prog w = .ok (.tuple #[.agg #[.int .i64 0], .bool false]) w := by kernel_rfl
theorem assert_is (a : Int) (w : World) : (Instr.typeAssert (.iface 49 (.agg #[.int .i64 a])) 20 49 true).run Tryd.prog w = .ok (.tuple #[.agg #[.int .i64 a], .bool true]) w := by kernel_rfl

set_option maxRecDepth 100000 in
theorem pcatch_idle (p : Addr) (w : World) :
    CallsD Tryd.prog 23 #[.pointer (some p)] .returning w fun e u' w' => e = .returned (.tuple #[]) ∧ u' = .returning ∧ Below w.heap.size w w' := by
  have ha := assert_nil
  refine callsD_of_wpS Tryd.func23 rfl fun c₀ cs hu => ?_
  simp only [Tryd.ntmps23, List.size_toArray, List.length_cons, List.length_nil, Nat.reduceAdd, Nat.reduceSub, Array.replicate_succ, Array.replicate_zero, List.push_toArray, List.append_toArray, List.nil_append, List.cons_append]
  apply wpS_seq
  apply wpS_region
  simp [wpOpsS, go_sem, recoverD, hu, Exit.thenS, ha]
  apply wpS_seq
  apply wpS_region
  simp [wpOpsS, go_sem, Exit.thenS]
  refine wpS_cond (t := false) (by simp [Act.eval]) ?_
  simp only [Bool.false_eq_true, if_false]
  refine wpS_of_wp (wp_skip ?_)
  have hB := below_alloc1 w (.cells #[.int .i64 0] 49)
  cases c₀
  simp_all [bodyPostS, results, Tryd.results23]

set_option maxRecDepth 100000 in
theorem pcatch_panicking (g : Nat) (v : Value) (x y a : Int) (older : List PanicEntry) (w : World) (h : w.heap[g]? = some (.cells #[v, .int .i64 x, .int .i64 y] 24)) :
    CallsD Tryd.prog 23 #[.pointer (some ⟨g, 0, none⟩)] (.panicking ({ v := .iface 49 (.agg #[.int .i64 a]), recovered := false } :: older)) w fun e u' w' =>
      e = .returned (.tuple #[]) ∧ u' = .panicking ({ v := .iface 49 (.agg #[.int .i64 a]), recovered := true } :: older) ∧ w'.heap[g]? = some (.cells #[.slice none 0 0, .int .i64 a, .int .i64 3] 24) ∧ w.grownBy w' (some g) := by
  have ha := assert_is a
  obtain ⟨c0, c1, c2⟩ : (∀ o, (w.alloc o).cell? ⟨g, 0, none⟩ = some v) ∧ (∀ o, (w.alloc o).cell? ⟨g, 1, none⟩ = some (.int .i64 x)) ∧ (∀ o, (w.alloc o).cell? ⟨g, 2, none⟩ = some (.int .i64 y)) :=
    ⟨fun o => (cel3 (blk_old h o)).1, fun o => (cel3 (blk_old h o)).2.1, fun o => (cel3 (blk_old h o)).2.2⟩
  have hf : ∀ o j, (w.alloc o).frozen? ⟨g, j, none⟩ = false := fun o j => unfrozen (blk_old h o) j
  refine callsD_of_wpS Tryd.func23 rfl fun c₀ cs hu => ?_
  simp only [Tryd.ntmps23, List.size_toArray, List.length_cons, List.length_nil, Nat.reduceAdd, Nat.reduceSub, Array.replicate_succ, Array.replicate_zero, List.push_toArray, List.append_toArray, List.nil_append, List.cons_append]
  apply wpS_seq
  apply wpS_region
  simp [wpOpsS, go_sem, recoverD, hu, Exit.thenS, ha]
  apply wpS_seq
  apply wpS_region
  simp [wpOpsS, go_sem, Exit.thenS]
  refine wpS_cond (t := true) (by simp [Act.eval]) ?_
  simp only [if_true]
  apply wpS_region
  simp [wpOpsS, go_sem, c0, c1, c2, hf]
  refine ⟨rfl, _, rfl, .tuple #[], by simp [results, Tryd.results23, go_sem], rfl, rfl, ?_, ?_⟩
  · exact set3_block (blk_old h _) _ _ _
  · exact grew_grew (grew_grew (grew_grew (below_grew (below_alloc1 w _) _) (grew_cell _ _ _ _)) (grew_cell _ _ _ _)) (grew_cell _ _ _ _)

set_option maxRecDepth 100000 in
set_option maxHeartbeats 2000000 in
theorem read_err (s : ByteArray) (a : Nat) (w : World) (hs : s.size ≤ 20000) (I : himpl.IDigest) (hG : GV w) (hR : reads s 0 = .error a) :
    Calls Tryd.prog 7 #[.string s] w (OPost w ([], (a : Int), 3)) := by
  have hmf : ∀ (fn : Fn) (first cap : Array Value) (w : World), (Instr.makeFunc fn first cap).run Tryd.prog w = .ok (.func fn first cap) w := fun _ _ _ _ => rfl
  have h1 : (s.size : Int) ≤ 20000 := by omega
  have HB : Hid (Calls Tryd.prog 24 #[.string s] (w.alloc (.cells #[.slice none 0 0, .int .i64 0, .int .i64 0] 24)) fun e w' => e = .panicked [{ v := .iface 49 (.agg #[.int .i64 a]), recovered := false }] ∧ Below (w.alloc (.cells #[.slice none 0 0, .int .i64 0, .int .i64 0] 24)).heap.size (w.alloc (.cells #[.slice none 0 0, .int .i64 0, .int .i64 0] 24)) w') :=
    mkHid ((readBlobs_any s _ hs I (hG.below (below_alloc1 w _) hG.lt)).mono (by intro e w' h; unfold RPost at h; rw [hR] at h; exact h))
  go_enter_defers Tryd.func7, Tryd.ntmps7
  go_wp2_with fail
  refine HB.out.mono ?_
  rintro e w1 ⟨rfl, hb1⟩
  have k1 := blk_below (blk_new w (.cells #[.slice none 0 0, .int .i64 0, .int .i64 0] 24) w.heap.size rfl) hb1
  have B1 := below_allocs (os := [_]) hb1
  refine leaves_cons (f := 23) (args := #[.pointer (some ⟨w.heap.size, 0, none⟩)]) (by simp) (by simp [go_sem]) ?_
  refine (pcatch_panicking w.heap.size _ _ _ a [] _ k1).mono ?_
  rintro e u' w2 ⟨rfl, rfl, k2, hg2⟩
  obtain ⟨q0, q1, q2⟩ := cel3 k2
  have B2 := below_of_grew B1 B1.size hg2 (Nat.le_refl _)
  refine ⟨.agg #[.slice none 0 0, .int .i64 (a : Int), .int .i64 3], ?_, none, 0, rfl, .inl rfl, fun b o s e => by simp at e, B2⟩
  simp [results, Tryd.results7, go_sem, q0, q1, q2]

set_option maxRecDepth 100000 in
set_option maxHeartbeats 2000000 in
theorem read_ok (R : IPackRight) (s : ByteArray) (l : List (Int × ByteArray)) (w : World) (hs : s.size ≤ 20000) (I : himpl.IDigest) (hG : GV w) (hR : reads s 0 = .ok l) :
    Calls Tryd.prog 7 #[.string s] w (OPost w (if packR l = true then (l, 0, 0) else ([], 0, 1))) := by
  have hmf : ∀ (fn : Fn) (first cap : Array Value) (w : World), (Instr.makeFunc fn first cap).run Tryd.prog w = .ok (.func fn first cap) w := fun _ _ _ _ => rfl
  have h1 : (s.size : Int) ≤ 20000 := by omega
  have hl := pack.reads_len hR
  have HB : Hid (Calls Tryd.prog 24 #[.string s] (w.alloc (.cells #[.slice none 0 0, .int .i64 0, .int .i64 0] 24)) fun e w' => ∃ a c, e = .returned (.slice a l.length c) ∧ OwnV 37 w' a (bl l) ∧ (∀ b o s, a = some ⟨b, o, s⟩ → w.heap.size + 1 ≤ b) ∧ Below (w.alloc (.cells #[.slice none 0 0, .int .i64 0, .int .i64 0] 24)).heap.size (w.alloc (.cells #[.slice none 0 0, .int .i64 0, .int .i64 0] 24)) w') :=
    mkHid ((readBlobs_any s _ hs I (hG.below (below_alloc1 w _) hG.lt)).mono (by intro e w' h; unfold RPost at h; rw [hR] at h; obtain ⟨a, c, e1, e2, e3, e4⟩ := h; exact ⟨a, c, e1, e2, fun b o s e => by have := e3 b o s e; simp at this; omega, e4⟩))
  have HP := mkHid (fun wx a c (hr : Rd wx a (bl l)) (hb : Below w.heap.size w wx) => R a c l wx (by omega) (fun b hb => by have := hl.2 b hb; omega) hr (hG.below hb hG.lt))
  clear R I hG hR
  cases hp : packR l
  · rw [hp] at HP
    rw [if_neg (by simp)]
    go_enter_defers Tryd.func7, Tryd.ntmps7
    go_wp2_with fail
    refine HB.out.mono ?_
    rintro e w1 ⟨a1, c1, rfl, ho1, hf1, hb1⟩
    have K1 := mkHid (And.intro (below_allocs (os := [_]) hb1) (And.intro (blk_below (blk_new w (.cells #[.slice none 0 0, .int .i64 0, .int .i64 0] 24) w.heap.size rfl) hb1) ho1.rd))
    clear hb1 ho1 hf1 HB
    go_wp2_with fail
    refine (HP.out _ _ _ K1.out.2.2 K1.out.1).mono ?_
    rintro e w2 ⟨rfl, hb2⟩
    have K2 := mkHid (And.intro (K1.out.1.trans (hb2.mono K1.out.1.size)) (blk_below K1.out.2.1 hb2))
    obtain ⟨q0, q1, q2⟩ := cel3 K2.out.2
    have qf := unfrozen K2.out.2
    clear hb2 K1 HP
    have k3 := set3_block K2.out.2 (.slice none 0 0) (.int .i64 0) (.int .i64 1)
    have B3 := below_set3 (g := w.heap.size) K2.out.1 (Nat.le_refl _) K2.out.1.size (.slice none 0 0) (.int .i64 0) (.int .i64 1)
    have K3 := mkHid (And.intro B3 k3)
    clear k3 B3
    go_wp2
    generalize ((w2.setCell ⟨w.heap.size, 0, none⟩ (.slice none 0 0)).setCell ⟨w.heap.size, 1, none⟩ (.int .i64 0)).setCell ⟨w.heap.size, 2, none⟩ (.int .i64 1) = W3 at *
    refine leaves_cons (f := 23) (args := #[.pointer (some ⟨w.heap.size, 0, none⟩)]) (by simp) (by simp [go_sem]) ?_
    refine (pcatch_idle ⟨w.heap.size, 0, none⟩ W3).mono ?_
    rintro e u' w4 ⟨rfl, rfl, hb4⟩
    obtain ⟨r0, r1, r2⟩ := cel3 (blk_below K3.out.2 hb4)
    refine ⟨.agg #[.slice none 0 0, .int .i64 0, .int .i64 1], ?_, none, 0, rfl, .inl rfl, fun b o s e => by simp at e, K3.out.1.trans (hb4.mono K3.out.1.size)⟩
    simp [results, Tryd.results7, go_sem, r0, r1, r2]
  · rw [hp] at HP
    rw [if_pos rfl]
    go_enter_defers Tryd.func7, Tryd.ntmps7
    go_wp2_with fail
    refine HB.out.mono ?_
    rintro e w1 ⟨a1, c1, rfl, ho1, hf1, hb1⟩
    have K1 := mkHid (And.intro (below_allocs (os := [_]) hb1) (And.intro (blk_below (blk_new w (.cells #[.slice none 0 0, .int .i64 0, .int .i64 0] 24) w.heap.size rfl) hb1) ho1))
    have HF := mkHid hf1
    clear hb1 ho1 hf1 HB
    go_wp2_with fail
    refine (HP.out _ _ _ K1.out.2.2.rd K1.out.1).mono ?_
    rintro e w2 ⟨rfl, hb2⟩
    have K2 := mkHid (And.intro (K1.out.1.trans (hb2.mono K1.out.1.size)) (And.intro (blk_below K1.out.2.1 hb2) (K1.out.2.2.below hb2)))
    obtain ⟨q0, q1, q2⟩ := cel3 K2.out.2.1
    have qf := unfrozen K2.out.2.1
    clear hb2 K1 HP
    have k3 := set3_block K2.out.2.1 (.slice a1 l.length c1) (.int .i64 0) (.int .i64 0)
    have B3 := below_set3 (g := w.heap.size) K2.out.1 (Nat.le_refl _) K2.out.1.size (.slice a1 l.length c1) (.int .i64 0) (.int .i64 0)
    have O3 := ownV_set3 (g := w.heap.size) K2.out.2.2 (fun b o s e => by have := HF.out b o s e; omega) (.slice a1 l.length c1) (.int .i64 0) (.int .i64 0)
    have K3 := mkHid (And.intro B3 (And.intro k3 O3))
    clear k3 B3 O3
    go_wp2
    generalize ((w2.setCell ⟨w.heap.size, 0, none⟩ (.slice a1 l.length c1)).setCell ⟨w.heap.size, 1, none⟩ (.int .i64 0)).setCell ⟨w.heap.size, 2, none⟩ (.int .i64 0) = W3 at *
    refine leaves_cons (f := 23) (args := #[.pointer (some ⟨w.heap.size, 0, none⟩)]) (by simp) (by simp [go_sem]) ?_
    refine (pcatch_idle ⟨w.heap.size, 0, none⟩ W3).mono ?_
    rintro e u' w4 ⟨rfl, rfl, hb4⟩
    obtain ⟨r0, r1, r2⟩ := cel3 (blk_below K3.out.2.1 hb4)
    refine ⟨.agg #[.slice a1 l.length c1, .int .i64 0, .int .i64 0], ?_, a1, c1, rfl, K3.out.2.2.below hb4, fun b o s e => Nat.le_of_succ_le (HF.out b o s e), K3.out.1.trans (hb4.mono K3.out.1.size)⟩
    simp [results, Tryd.results7, go_sem, r0, r1, r2]

set_option maxRecDepth 100000 in
theorem read_impl (R : IPackRight) (s : ByteArray) (w : World) (hs : s.size ≤ 1048576) (I : himpl.IDigest) (hG : GV w) :
    Calls Tryd.prog 7 #[.string s] w (OPost w (readT s)) := by
  by_cases h : 20000 < (s.size : Int)
  · have E : readT s = ([], 0, 2) := by unfold readT; rw [if_pos (by omega)]
    rw [E]
    clear E
    go_enter_defers Tryd.func7, Tryd.ntmps7
    go_wp2
    refine ⟨.agg #[.slice none 0 0, .int .i64 0, .int .i64 2], ?_, none, 0, rfl, .inl rfl, fun b o s e => by simp at e, below_alloc1 _ _⟩
    simp [results, Tryd.results7, go_sem]
  · cases hR : reads s 0 with
    | error a =>
      have E : readT s = ([], (a : Int), 3) := by unfold readT; rw [if_neg (by omega), hR]
      rw [E]
      exact read_err s a w (by omega) I hG hR
    | ok l =>
      have E : readT s = if packR l = true then (l, 0, 0) else ([], 0, 1) := by unfold readT; rw [if_neg (by omega), hR]
      rw [E]
      exact read_ok R s l w (by omega) I hG hR
end Go.Proofs.YtlmhdebjmkcanabDoor.rdr
namespace Go.Proofs.YtlmhdebjmkcanabDoor.pack
open Go.RowKit Go.Joins
open Go.Proofs.YtlmhdebjmkcanabDoor.base Go.Proofs.YtlmhdebjmkcanabDoor.blk Go.Proofs.YtlmhdebjmkcanabDoor.aid
open Go.Proofs.YtlmhdebjmkcanabDoor.row (bl en Rd Own OwnV appSem app_fold app1)
open Go.Proofs.YtlmhdebjmkcanabDoor.rdr (OPost appB own_v own_ge row_below)
set_option linter.unusedVariables false
attribute [local go_sem ↓] app_fold

/-- while the specification reads -/
structure Rs (w : World) (acc : List (Int × ByteArray)) (v : Value) (W : World) : Prop where
  below : Below w.heap.size w W
  out : W.heap[w.heap.size]? = some (.cells #[.slice none 0 0, .int .i64 0, .int .i64 0] 24)
  row : W.ownsRow (w.heap.size + 1) 37 2 v acc.length (bl acc)
theorem Rs.next {w W W' : World} {acc : List (Int × ByteArray)} {v : Value} (h : Rs w acc v W) (hb : Below W.heap.size W W') : Rs w acc v W' :=
  ⟨h.below.trans (hb.mono h.below.size), blk_below h.out hb, h.row.kept (row := none) ⟨hb.os, hb.tape, hb.output, hb.size, fun k hk _ => hb.block k hk⟩ (by
    by_cases hne : v.ownBlock = none
    · exact .inl hne
    · exact .inr hne)⟩
theorem Rs.app {w W : World} {acc : List (Int × ByteArray)} {v : Value} (h : Rs w acc v W) (k : Int) (t : ByteArray) (hl : acc.length ≤ 1048576) :
    ∃ g c w2, (appSem #[22, 22] 22 #[v, .slice (some ⟨W.heap.size, 0, none⟩) 1 1]).run Tryd.prog (W.alloc (.cells #[.int .i64 k, .string t] 37)) = .ok (.slice (some ⟨g, 0, none⟩) (acc.length + 1) c) w2 ∧ Rs w (acc ++ [(k, t)]) (.slice (some ⟨g, 0, none⟩) (acc ++ [(k, t)]).length c) w2 := by
  have hs : w.heap.size + 1 ≤ W.heap.size := (Array.getElem?_eq_some_iff.1 h.out).1
  obtain ⟨g, c, w2, h1, h2, h3⟩ := appB W (w.heap.size + 1) v acc.length acc k t rfl h.row hs hl
  refine ⟨g, c, w2, h1, ?_, ?_, by simpa using h2⟩
  · exact ((h.below.alloc h.below.size _).grown h3 (by simp; omega) (fun x hx => Nat.le_of_succ_le (h.row.lt x hx).1))
  · refine (h3.block w.heap.size (by simp; omega) (fun e => ?_)).trans (blk_old h.out _)
    have := (h.row.lt w.heap.size e.symm).1
    omega

set_option maxRecDepth 100000 in
set_option maxHeartbeats 2000000 in
theorem read_in (A : IAt) (s : ByteArray) (w : World) (hs : s.size ≤ 20000) :
    Calls Tryd.prog 6 #[.string s] w (OPost w (readT s)) := by
  have h1 : (s.size : Int) ≤ 20000 := by omega
  have ET : Hid ((∀ a, reads s 0 = .error a → readT s = ([], (a : Int), 3)) ∧ (∀ l, reads s 0 = .ok l → packR l = true → readT s = (l, 0, 0)) ∧ (∀ l, reads s 0 = .ok l → packR l = false → readT s = ([], 0, 1))) := mkHid ⟨fun a hr => by unfold readT; rw [if_neg (by omega), hr], fun l hr hp => by unfold readT; rw [if_neg (by omega), hr]; simp only; rw [if_pos hp], fun l hr hp => by unfold readT; rw [if_neg (by omega), hr]; simp only; rw [if_neg (by rw [hp]; simp)]⟩
  have HLen := mkHid (fun l (h : reads s 0 = .ok l) => reads_len h)
  have HN := mkHid (fun wx (a : Nat) (ha : a ≤ s.size) (hR : recAt s a = none) => (A s a wx hs ha).mono (fun e w' h => at_no hR h))
  have HY := mkHid (fun wx (a : Nat) (ha : a ≤ s.size) (k : Int) (q n : Nat) (hR : recAt s a = some (k, q, n)) => (A s a wx hs ha).mono (fun e w' h => at_yes hR h))
  unfold AYes at HY
  unfold ANo at HN
  clear A
  go_enter Tryd.func6, Tryd.ntmps6
  go_wp2_with fail
  go_loopw [3, 4] (fun v i wr => ∃ (a : Nat) (acc : List (Int × ByteArray)) (va : Option Addr) (vc : Nat), a ≤ s.size ∧ i = .int .i64 a ∧ v = .slice va acc.length vc ∧ acc.length ≤ a ∧ Hid (pack.Read s acc a) ∧ Hid (Rs w acc (.slice va acc.length vc) wr))
    (fun _ i _ => s.size - (intOf i).toNat)
  case atStart =>
    exact ⟨0, [], _, 0, Nat.zero_le _, rfl, rfl, by simp, mkHid (pack.Read.start s), mkHid ⟨(below_alloc1 w _).alloc (by simp) _, blk_old (blk_new w _ _ rfl) _, by
      have h := World.ownsRow_made (base := w.heap.size + 1) (size := 2) (e := 37) (w.alloc (.cells #[.slice none 0 0, .int .i64 0, .int .i64 0] 24)) #[] 0 (by simp) (by decide) rfl
      simpa [row.bl_nil] using h⟩⟩
  case round =>
    obtain ⟨a, acc, va, vc, ha, rfl, rfl, hacc, hrd, hR⟩ := hrel
    by_cases hlt : a < s.size
    · have hlti : (a : Int) < (s.size : Int) := by omega
      cases hr : recAt s a with
      | none =>
        have E : Hid (readT s = ([], (a : Int), 3)) := mkHid (ET.out.1 _ (hrd.out.no hlt hr))
        go_wp2_with fail
        refine (HN.out _ a ha hr).mono ?_
        rintro e w1 ⟨x0, k0, p0, n0, k1, t0, q0, rfl, hb1⟩
        have R1 := mkHid (hR.out.next (hb1.trans (((below_alloc1 w1 (.cells #[.string x0, .int .i64 k0, .int .i64 p0, .int .i64 n0] 41)).alloc (by simp) (.cells #[.int .i64 k1, .string t0] 37)).mono hb1.size)))
        obtain ⟨q0', q1', q2'⟩ := cel3 R1.out.out
        have qf := unfrozen R1.out.out
        clear hb1 hR hrd HN HY hr
        have hB := mkHid (below_set3 (g := w.heap.size) R1.out.below (Nat.le_refl _) R1.out.below.size (.slice none 0 0) (.int .i64 (a : Int)) (.int .i64 3))
        go_wp2
        rw [E.out]
        exact bodyPost_ret (v := .agg #[.slice none 0 0, .int .i64 (a : Int), .int .i64 3]) (by simp [results, Tryd.results6, go_sem, q0', q1', q2']) rfl ⟨none, 0, rfl, .inl rfl, fun b o s e => by simp at e, by exact hB.out⟩
      | some x =>
        obtain ⟨k, q, n⟩ := x
        have hq := rec_some hr
        have N1 := mkHid (hrd.out.next hlt hr)
        have HYY := mkHid (fun wx => HY.out wx a ha k q n hr)
        generalize keyAt s a = ky at *
        generalize s.extract q (q + n) = tx at *
        clear HY HN hrd hr
        go_wp2_with fail
        refine (HYY.out _).mono ?_
        rintro e w1 ⟨rfl, hb1⟩
        have R1 := mkHid (hR.out.next (hb1.trans (((below_alloc1 w1 (.cells #[.string ky, .int .i64 k, .int .i64 (q : Int), .int .i64 (n : Int)] 41)).alloc (by simp) (.cells #[.int .i64 k, .string tx] 37)).mono hb1.size)))
        have X1 := blk_new (w1.alloc (.cells #[.string ky, .int .i64 k, .int .i64 (q : Int), .int .i64 (n : Int)] 41)) (.cells #[.int .i64 k, .string tx] 37) (w1.heap.size + 1) (by simp)
        have hsz : ((w1.alloc (.cells #[.string ky, .int .i64 k, .int .i64 (q : Int), .int .i64 (n : Int)] 41)).alloc (.cells #[.int .i64 k, .string tx] 37)).heap.size = w1.heap.size + 1 + 1 := by simp
        obtain ⟨g, c, w2, hrun, R2⟩ := R1.out.app k tx (by omega)
        have R2' := mkHid R2
        obtain ⟨c0, c1⟩ := cel2 X1
        rw [hsz] at hrun
        clear hb1 hR HYY R1 R2 X1 hsz
        go_wp2
        exact ⟨⟨q + n, acc ++ [(k, tx)], some ⟨g, 0, none⟩, c, by omega, by go_num, by simp, by simp; omega, N1, R2'⟩, by simp [intOf]; omega⟩
    · have hlti : ¬ ((a : Int) < (s.size : Int)) := by omega
      have hE := hrd.out.fin (by omega)
      have hlen := HLen.out _ hE
      have EN := mkHid (ET.out.2.2 _ hE)
      have EY := mkHid (ET.out.2.1 _ hE)
      have HP := mkHid (fun wx (hx : Rd wx va (bl acc)) => right_spec_pack va vc acc wx (by omega) hx)
      clear hrd HN HY ET HLen hE
      cases hp : packR acc
      · rw [hp] at HP
        have E := mkHid (EN.out hp)
        clear EN EY
        go_wp2_with fail
        refine (HP.out _ (own_v hR.out.row).rd).mono ?_
        rintro e w1 ⟨rfl, hb1⟩
        have R1 := mkHid (hR.out.next hb1)
        obtain ⟨q0, q1, q2⟩ := cel3 R1.out.out
        have qf := unfrozen R1.out.out
        have hB := mkHid (below_set3 (g := w.heap.size) R1.out.below (Nat.le_refl _) R1.out.below.size (.slice none 0 0) (.int .i64 0) (.int .i64 1))
        clear hb1 hR HP
        go_wp2
        rw [E.out]
        exact bodyPost_ret (v := .agg #[.slice none 0 0, .int .i64 0, .int .i64 1]) (by simp [results, Tryd.results6, go_sem, q0, q1, q2]) rfl ⟨none, 0, rfl, .inl rfl, fun b o s e => by simp at e, hB.out⟩
      · rw [hp] at HP
        have E := mkHid (EY.out hp)
        clear EN EY
        go_wp2_with fail
        refine (HP.out _ (own_v hR.out.row).rd).mono ?_
        rintro e w1 ⟨rfl, hb1⟩
        have R1 := mkHid (hR.out.next hb1)
        obtain ⟨q0, q1, q2⟩ := cel3 R1.out.out
        have qf := unfrozen R1.out.out
        have hB := mkHid (And.intro (below_set3 (g := w.heap.size) R1.out.below (Nat.le_refl _) R1.out.below.size (.slice va acc.length vc) (.int .i64 0) (.int .i64 0)) (rdr.ownV_set3 (g := w.heap.size) (own_v R1.out.row) (fun b o s e => by have := own_ge R1.out.row b o s e; omega) (.slice va acc.length vc) (.int .i64 0) (.int .i64 0)))
        have hge := mkHid (own_ge R1.out.row)
        clear hb1 hR HP
        go_wp2
        rw [E.out]
        exact bodyPost_ret (v := .agg #[.slice va acc.length vc, .int .i64 0, .int .i64 0]) (by simp [results, Tryd.results6, go_sem, q0, q1, q2]) rfl ⟨va, vc, rfl, hB.out.2, fun b o s e => Nat.le_of_succ_le (hge.out b o s e), hB.out.1⟩

set_option maxRecDepth 100000 in
theorem read_spec (A : IAt) (s : ByteArray) (w : World) (hs : s.size ≤ 1048576) :
    Calls Tryd.prog 6 #[.string s] w (OPost w (readT s)) := by
  by_cases h : 20000 < (s.size : Int)
  · have E : readT s = ([], 0, 2) := by unfold readT; rw [if_pos (by omega)]
    rw [E]
    clear E
    go_enter Tryd.func6, Tryd.ntmps6
    go_wp2
    exact bodyPost_ret (v := .agg #[.slice none 0 0, .int .i64 0, .int .i64 2]) (by simp [results, Tryd.results6, go_sem]) rfl ⟨none, 0, rfl, .inl rfl, fun b o s e => by simp at e, below_alloc1 _ _⟩
  · exact read_in A s w (by omega)
end Go.Proofs.YtlmhdebjmkcanabDoor.pack
