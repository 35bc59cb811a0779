/-
  What the methods refuse, take and number of impl.packReader answer and leave. Condition: the reader lies in a block of its own; a text of at most 20,000 bytes.
-/
import Derived.Test.YtppjbmmeacmoiaaDoorAid
import Derived.Test.YtppjbmmeacmoiaaDoorGetR
import Derived.WalkLawsBesides
import Derived.Deep.RegionHeld3
import Derived.Deep.QuietTactic
import Derived.BigQuiet
import Derived.BigRegion
namespace Go.Proofs.YtppjbmmeacmoiaaDoor.rdr
open Go.RowKit Go.Joins
open Go.Proofs.YtppjbmmeacmoiaaDoor.base Go.Proofs.YtppjbmmeacmoiaaDoor.blk Go.Proofs.YtppjbmmeacmoiaaDoor.aid
set_option linter.unusedVariables false

def rdO (s : ByteArray) (a f : Int) : Obj := .cells #[.string s, .int .i64 a, .int .i64 f] 58
/-- the panic of a reader -/
def noRec (f : Int) : Ending := .panicked [{ v := .iface 87 (.agg #[.int .i64 f]), recovered := false }]

set_option maxRecDepth 100000 in
theorem refuse_any (g : Nat) (s : ByteArray) (a f : Int) (w : World) (h : w.heap[g]? = some (rdO s a f)) :
    Calls Tryd.prog 43 #[.pointer (some ⟨g, 0, none⟩)] w fun e w' => e = noRec f ∧ Below w.heap.size w w' := by
  obtain ⟨c0, c1, c2⟩ := cel3 h
  go_enter Tryd.func43, Tryd.ntmps43
  go_wp2
  exact ⟨rfl, rfl, Below.refl _ _⟩

theorem rd_set {w : World} {g : Nat} {s : ByteArray} {a f : Int} (h : w.heap[g]? = some (rdO s a f)) (b : Int) : (w.setCell ⟨g, 1, none⟩ (.int .i64 b)).heap[g]? = some (rdO s b f) := by
  rw [block_setCell (i := 1) h (.int .i64 b)]
  rfl

set_option maxRecDepth 100000 in
theorem take_ok (g : Nat) (s : ByteArray) (a n : Nat) (f : Int) (w : World) (h : w.heap[g]? = some (rdO s a f)) (hs : s.size ≤ 20000) (hn : a + n ≤ s.size) :
    Calls Tryd.prog 42 #[.pointer (some ⟨g, 0, none⟩), .int .i64 n] w fun e w' => e = .returned (.string (s.extract a (a + n))) ∧ w'.heap[g]? = some (rdO s ((a : Int) + n) f) ∧ w.grownBy w' (some g) := by
  obtain ⟨c0, c1, c2⟩ := cel3 h
  have d1 : decide ((n : Int) < 0) = false := decide_eq_false (by omega)
  have d2 : decide ((s.size : Int) - (a : Int) < (n : Int)) = false := decide_eq_false (by omega)
  have h1 : (s.size : Int) ≤ 20000 := by omega
  have h2 : (a : Int) + (n : Int) ≤ (s.size : Int) := by omega
  have hf : w.frozen? ⟨g, 1, none⟩ = false := by simp [World.frozen?, h, rdO]
  have hsl := slice_is s a n hn
  go_enter Tryd.func42, Tryd.ntmps42
  go_wp2
  go_quiet (fail)
  go_wp2
  go_quiet (fail)
  go_wp2
  go_ret
  exact ⟨rfl, rd_set h _, grew_re (grew_cell w g 1 _) rfl rfl rfl rfl⟩
set_option maxRecDepth 100000 in
theorem take_no (g : Nat) (s : ByteArray) (a : Nat) (n f : Int) (w : World) (h : w.heap[g]? = some (rdO s a f)) (hs : s.size ≤ 20000) (ha : a ≤ s.size) (hn : n < 0 ∨ (s.size : Int) - a < n) :
    Calls Tryd.prog 42 #[.pointer (some ⟨g, 0, none⟩), .int .i64 n] w fun e w' => e = noRec f ∧ Below w.heap.size w w' := by
  obtain ⟨c0, c1, c2⟩ := cel3 h
  have h1 : (s.size : Int) ≤ 20000 := by omega
  have h2 : (a : Int) ≤ (s.size : Int) := by omega
  have HF := mkHid (fun wx (hx : wx.heap[g]? = some (rdO s a f)) => refuse_any g s a f wx hx)
  have HI := mkHid h
  unfold noRec at HF ⊢
  by_cases hn0 : n < 0
  · have d1 : decide (n < 0) = true := decide_eq_true hn0
    clear hn
    go_enter Tryd.func42, Tryd.ntmps42
    go_wp2_with fail
    go_quiet (fail)
    go_wp2_with fail
    refine (HF.out _ (by exact HI.out)).mono ?_
    rintro e w1 ⟨rfl, hb1⟩
    exact ⟨rfl, rfl, re (w := w) hb1 rfl rfl rfl rfl⟩
  · have d1 : decide (n < 0) = false := decide_eq_false hn0
    have d2 : decide ((s.size : Int) - (a : Int) < n) = true := decide_eq_true (hn.resolve_left hn0)
    clear hn
    go_enter Tryd.func42, Tryd.ntmps42
    go_wp2_with fail
    go_quiet (fail)
    go_wp2_with fail
    refine (HF.out _ (by exact HI.out)).mono ?_
    rintro e w1 ⟨rfl, hb1⟩
    exact ⟨rfl, rfl, re (w := w) hb1 rfl rfl rfl rfl⟩

set_option maxRecDepth 100000 in
theorem number_ok (g : Nat) (s : ByteArray) (a : Nat) (f n p : Int) (w : World) (h : w.heap[g]? = some (rdO s a f)) (hs : s.size ≤ 20000) (ha : a ≤ 20000) (hG : num.G s a = .ok (n, p)) :
    Calls Tryd.prog 44 #[.pointer (some ⟨g, 0, none⟩)] w fun e w' => e = .returned (.int .i64 n) ∧ w'.heap[g]? = some (rdO s p f) ∧ w.grownBy w' (some g) := by
  obtain ⟨c0, c1, c2⟩ := cel3 h
  have hf : w.frozen? ⟨g, 1, none⟩ = false := unfrozen h 1
  have HN : Hid (∀ wx, Calls Tryd.prog 61 #[.string s, .int .i64 a] wx fun e w' => e = .returned (.tuple #[.int .i64 n, .int .i64 p, .nilIface]) ∧ w' = wx) := mkHid (fun wx => (num.read_any s a wx hs (by omega)).mono (by rintro e w' ⟨rfl, rfl⟩; rw [hG]; exact ⟨rfl, rfl⟩))
  go_enter Tryd.func44, Tryd.ntmps44
  go_wp2_with fail
  go_quiet ((go_at_call 61; exact Calls.quiet_of_same (HN.out _)))
  go_wp2
  go_ret
  exact ⟨rfl, rd_set h _, grew_re (grew_cell w g 1 _) rfl rfl rfl rfl⟩

set_option maxRecDepth 100000 in
theorem number_no (g : Nat) (s : ByteArray) (a : Nat) (f c : Int) (w : World) (h : w.heap[g]? = some (rdO s a f)) (hs : s.size ≤ 20000) (ha : a ≤ 20000) (hG : num.G s a = .error c) :
    Calls Tryd.prog 44 #[.pointer (some ⟨g, 0, none⟩)] w fun e w' => e = noRec f ∧ Below w.heap.size w w' := by
  obtain ⟨c0, c1, c2⟩ := cel3 h
  have HN : Hid (∀ wx, Calls Tryd.prog 61 #[.string s, .int .i64 a] wx fun e w' => e = .returned (.tuple #[.int .i64 0, .int .i64 0, .iface 109 (.agg #[.int .i64 c])]) ∧ w' = wx) := mkHid (fun wx => (num.read_any s a wx hs (by omega)).mono (by rintro e w' ⟨rfl, rfl⟩; rw [hG]; exact ⟨rfl, rfl⟩))
  have HF := mkHid (fun wx (hx : wx.heap[g]? = some (rdO s a f)) => refuse_any g s a f wx hx)
  have HI := mkHid h
  unfold noRec at HF ⊢
  go_enter Tryd.func44, Tryd.ntmps44
  go_wp2_with fail
  go_quiet ((go_at_call 61; exact Calls.quiet_of_same (HN.out _)))
  go_wp2_with fail
  refine (HF.out _ (by exact HI.out)).mono ?_
  rintro e w1 ⟨rfl, hb1⟩
  exact ⟨rfl, rfl, re (w := w) hb1 rfl rfl rfl rfl⟩
end Go.Proofs.YtppjbmmeacmoiaaDoor.rdr
