/-
  What impl.entryAt answers and leaves: the entry of the record at a place, or that there is none; a panic of its reader is recovered. Conditions: a text of at most 20,000 bytes; the numbers of the rounds are there.
-/
import Derived.Test.YtfochhnaodgpeaaDoorEntI
import Derived.Defers
import Derived.Recover
namespace Go.Proofs.YtfochhnaodgpeaaDoor.rdr
open Go.RowKit Go.Joins
open Go.Proofs.YtfochhnaodgpeaaDoor.base Go.Proofs.YtfochhnaodgpeaaDoor.blk Go.Proofs.YtfochhnaodgpeaaDoor.aid
open Go.Proofs.YtfochhnaodgpeaaDoor.pack (bKey bRight recAt keyAt)
open Go.Proofs.YtfochhnaodgpeaaDoor.sha (digest GV)
set_option linter.unusedVariables false
set_option linter.unusedSimpArgs false

set_option maxRecDepth 100000 in
theorem catch_idle (p : Addr) (b : Bool) (w : World) (hc : w.cell? p = some (.bool b)) (hz : w.frozen? p = false) :
    CallsD Tryd.prog 82 #[.pointer (some p)] .returning w fun e u' w' => e = .returned (.tuple #[]) ∧ u' = .returning ∧ w' = w.setCell p (.bool true) := by
  refine callsD_of_wpS Tryd.func82 rfl fun c₀ cs hu => ?_
  apply wpS_region
  simp [wpOpsS, go_sem, recoverD, hu, Tryd.ntmps82, Exit.thenS, hc, hz, bodyPostS, results, Tryd.results82]
  cases c₀
  simp_all

set_option maxRecDepth 100000 in
theorem catch_panicking (p : Addr) (b : Bool) (u : TypeId) (pv : Value) (older : List PanicEntry) (w : World) (hc : w.cell? p = some (.bool b)) (hz : w.frozen? p = false) :
    CallsD Tryd.prog 82 #[.pointer (some p)] (.panicking ({ v := .iface u pv, recovered := false } :: older)) w fun e u' w' =>
      e = .returned (.tuple #[]) ∧ u' = .panicking ({ v := .iface u pv, recovered := true } :: older) ∧ w' = w.setCell p (.bool false) := by
  refine callsD_of_wpS Tryd.func82 rfl fun c₀ cs hu => ?_
  apply wpS_region
  simp [wpOpsS, go_sem, recoverD, hu, Tryd.ntmps82, Exit.thenS, hc, hz, bodyPostS, results, Tryd.results82]

/-- the three variables of entryAt -/
structure T3 (w : World) (s : ByteArray) (a f : Int) (W : World) : Prop where
  below : Below w.heap.size w W
  e0 : W.heap[w.heap.size]? = some (.cells #[.string ⟨#[]⟩, .int .i64 0, .int .i64 0, .int .i64 0] 57)
  e1 : W.heap[w.heap.size + 1]? = some (.cells #[.bool false] 4)
  e2 : W.heap[w.heap.size + 1 + 1]? = some (rdO s a f)
theorem T3.start (w : World) (s : ByteArray) (a : Int) : T3 w s a 0 (((w.alloc (.cells #[.string ⟨#[]⟩, .int .i64 0, .int .i64 0, .int .i64 0] 57)).alloc (.cells #[.bool false] 4)).alloc (.cells #[.string s, .int .i64 a, .int .i64 0] 105)) :=
  ⟨((below_alloc1 w _).alloc (by simp) _).alloc (by simp; omega) _, blk_old (blk_old (blk_new w _ _ rfl) _) _, blk_old (blk_new _ _ _ (by simp)) _, blk_new _ _ _ (by simp)⟩
theorem T3.grew {w W W' : World} {s : ByteArray} {a f : Int} (h : T3 w s a f W) (hg : W.grownBy W' (some (w.heap.size + 1 + 1))) : Below w.heap.size w W' ∧ W'.heap[w.heap.size]? = W.heap[w.heap.size]? ∧ W'.heap[w.heap.size + 1]? = W.heap[w.heap.size + 1]? :=
  ⟨below_of_grew h.below h.below.size hg (by omega), hg.block _ (Array.getElem?_eq_some_iff.1 h.e0).1 (by simp; omega), hg.block _ (Array.getElem?_eq_some_iff.1 h.e1).1 (by simp)⟩

set_option maxRecDepth 100000 in
set_option maxHeartbeats 2000000 in
theorem entryAt_no (s : ByteArray) (a : Nat) (w : World) (hs : s.size ≤ 20000) (ha : a ≤ s.size) (I : himpl.IDigest) (hG : GV w) (hR : recAt s a = none) :
    Calls Tryd.prog 59 #[.string s, .int .i64 a] w fun e w' => e = .returned (.tuple #[.agg #[.string ⟨#[]⟩, .int .i64 0, .int .i64 0, .int .i64 0], .bool false]) ∧ Below w.heap.size w w' := by
  have hmf : ∀ (fn : Fn) (first cap : Array Value) (w : World), (Instr.makeFunc fn first cap).run Tryd.prog w = .ok (.func fn first cap) w := fun _ _ _ _ => rfl
  have S0 := mkHid (T3.start w s a)
  have HE : Hid (Calls Tryd.prog 71 #[.pointer (some ⟨w.heap.size + 1 + 1, 0, none⟩)] (((w.alloc (.cells #[.string ⟨#[]⟩, .int .i64 0, .int .i64 0, .int .i64 0] 57)).alloc (.cells #[.bool false] 4)).alloc (.cells #[.string s, .int .i64 a, .int .i64 0] 105)) fun e w' => e = .panicked [{ v := .iface 81 (.agg #[.int .i64 a]), recovered := false }] ∧ ((((w.alloc (.cells #[.string ⟨#[]⟩, .int .i64 0, .int .i64 0, .int .i64 0] 57)).alloc (.cells #[.bool false] 4)).alloc (.cells #[.string s, .int .i64 a, .int .i64 0] 105))).grownBy w' (some (w.heap.size + 1 + 1))) :=
    mkHid ((entry_any (w.heap.size + 1 + 1) s a 0 _ S0.out.e2 hs ha I (hG.below S0.out.below hG.lt) (by omega)).mono (by intro e w' h; unfold EPost at h; rw [hR] at h; exact h))
  go_enter_defers Tryd.func59, Tryd.ntmps59
  go_wp2_with fail
  refine HE.out.mono ?_
  rintro e w1 ⟨rfl, hg1⟩
  obtain ⟨hb, q0, q1⟩ := S0.out.grew hg1
  rw [S0.out.e0] at q0
  rw [S0.out.e1] at q1
  obtain ⟨r0, r1, r2, r3⟩ := cel4 q0
  have b0 := cel1 q1
  refine leaves_cons (f := 82) (args := #[.pointer (some ⟨w.heap.size + 1, 0, none⟩)]) (by simp) (by simp [go_sem]) ?_
  refine (catch_panicking ⟨w.heap.size + 1, 0, none⟩ false _ _ [] _ b0 (unfrozen q1 0)).mono ?_
  rintro e u' w2 ⟨rfl, rfl, rfl⟩
  have hB := hb.setCell (p := ⟨w.heap.size + 1, 0, none⟩) (by simp) (.bool false)
  simp [Leaves, settle, results, Tryd.results59, go_sem, r0, r1, r2, r3, b0, hB]

set_option maxRecDepth 100000 in
set_option maxHeartbeats 2000000 in
theorem entryAt_yes (s : ByteArray) (a : Nat) (k : Int) (q n : Nat) (w : World) (hs : s.size ≤ 20000) (ha : a ≤ s.size) (I : himpl.IDigest) (hG : GV w) (hR : recAt s a = some (k, q, n)) :
    Calls Tryd.prog 59 #[.string s, .int .i64 a] w fun e w' => e = .returned (.tuple #[.agg #[.string (keyAt s a), .int .i64 k, .int .i64 (q : Int), .int .i64 (n : Int)], .bool true]) ∧ Below w.heap.size w w' := by
  have hmf : ∀ (fn : Fn) (first cap : Array Value) (w : World), (Instr.makeFunc fn first cap).run Tryd.prog w = .ok (.func fn first cap) w := fun _ _ _ _ => rfl
  have S0 := mkHid (T3.start w s a)
  have HE : Hid (Calls Tryd.prog 71 #[.pointer (some ⟨w.heap.size + 1 + 1, 0, none⟩)] (((w.alloc (.cells #[.string ⟨#[]⟩, .int .i64 0, .int .i64 0, .int .i64 0] 57)).alloc (.cells #[.bool false] 4)).alloc (.cells #[.string s, .int .i64 a, .int .i64 0] 105)) fun e w' => e = .returned (.agg #[.string (keyAt s a), .int .i64 k, .int .i64 (q : Int), .int .i64 (n : Int)]) ∧ ((((w.alloc (.cells #[.string ⟨#[]⟩, .int .i64 0, .int .i64 0, .int .i64 0] 57)).alloc (.cells #[.bool false] 4)).alloc (.cells #[.string s, .int .i64 a, .int .i64 0] 105))).grownBy w' (some (w.heap.size + 1 + 1))) :=
    mkHid ((entry_any (w.heap.size + 1 + 1) s a 0 _ S0.out.e2 hs ha I (hG.below S0.out.below hG.lt) (by omega)).mono (by intro e w' h; unfold EPost at h; rw [hR] at h; exact ⟨h.1, h.2.2⟩))
  go_enter_defers Tryd.func59, Tryd.ntmps59
  go_wp2_with fail
  refine HE.out.mono ?_
  rintro e w1 ⟨rfl, hg1⟩
  have hq := S0.out.grew hg1
  rw [S0.out.e0, S0.out.e1] at hq
  have HQ := mkHid hq
  obtain ⟨r0, r1, r2, r3⟩ := cel4 HQ.out.2.1
  have b0 := cel1 HQ.out.2.2
  have f0 := unfrozen HQ.out.2.1
  have f1 := unfrozen HQ.out.2.2
  clear hq hg1 HE
  go_wp2
  refine leaves_cons (f := 82) (args := #[.pointer (some ⟨w.heap.size + 1, 0, none⟩)]) (by simp) (by simp [go_sem]) ?_
  refine (catch_idle ⟨w.heap.size + 1, 0, none⟩ true _ (by simp [go_sem, b0]) (by simp [go_sem, f1])).mono ?_
  rintro e u' w2 ⟨rfl, rfl, rfl⟩
  have hB := (((((HQ.out.1.setCell (p := ⟨w.heap.size, 0, none⟩) (by simp) (.string (keyAt s a))).setCell (p := ⟨w.heap.size, 1, none⟩) (by simp) (.int .i64 k)).setCell (p := ⟨w.heap.size, 2, none⟩) (by simp) (.int .i64 (q : Int))).setCell (p := ⟨w.heap.size, 3, none⟩) (by simp) (.int .i64 (n : Int))).setCell (p := ⟨w.heap.size + 1, 0, none⟩) (by simp) (.bool true)).setCell (p := ⟨w.heap.size + 1, 0, none⟩) (by simp) (.bool true)
  refine ⟨.tuple #[.agg #[.string (keyAt s a), .int .i64 k, .int .i64 (q : Int), .int .i64 (n : Int)], .bool true], ?_, rfl, hB⟩
  have hl : ((((((w1.setCell ⟨w.heap.size, 0, none⟩ (.string (keyAt s a))).setCell ⟨w.heap.size, 1, none⟩ (.int .i64 k)).setCell ⟨w.heap.size, 2, none⟩ (.int .i64 (q : Int))).setCell ⟨w.heap.size, 3, none⟩ (.int .i64 (n : Int))).setCell ⟨w.heap.size + 1, 0, none⟩ (.bool true)).setCell ⟨w.heap.size + 1, 0, none⟩ (.bool true)).cell? ⟨w.heap.size + 1, 0, none⟩ = some (.bool true) :=
    World.cell?_setCell_same _ _ _ (u := .bool true) (by simp [go_sem, b0])
  simp [results, Tryd.results59, go_sem, r0, r1, r2, r3, hl]
end Go.Proofs.YtfochhnaodgpeaaDoor.rdr
