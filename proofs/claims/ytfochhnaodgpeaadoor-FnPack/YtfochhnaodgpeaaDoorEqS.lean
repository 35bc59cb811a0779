/-
  What laws.eqBlobS answers and leaves, of two rows that hold the same. Condition: at most 1,048,576 blobs, which lie in memory.
-/
import Derived.Test.YtfochhnaodgpeaaDoorCells
import Derived.Test.YtfochhnaodgpeaaDoorLwBlob
namespace Go.Proofs.YtfochhnaodgpeaaDoor.lwb
open Go.RowKit Go.Joins
open Go.Proofs.YtfochhnaodgpeaaDoor.base Go.Proofs.YtfochhnaodgpeaaDoor.blk Go.Proofs.YtfochhnaodgpeaaDoor.aid
open Go.Proofs.YtfochhnaodgpeaaDoor.row (bl en Rd Own OwnV)
set_option linter.unusedVariables false

set_option maxRecDepth 100000 in
theorem eqS_same (a b : Option Addr) (ca cb : Nat) (l : List (Int × ByteArray)) (w : World) (hl : l.length ≤ 1048576) (ha : Rd w a (bl l)) (hb : Rd w b (bl l)) :
    Calls Tryd.prog 25 #[.slice a l.length ca, .slice b l.length cb] w fun e w' => e = .returned (.bool true) ∧ Below w.heap.size w w' := by
  go_enter Tryd.func25, Tryd.ntmps25
  go_wp2
  go_loopw [5] (fun i wr => ∃ k : Nat, k ≤ l.length ∧ i = .int .i64 k ∧ Below w.heap.size w wr)
    (fun i _ => l.length - (intOf i).toNat)
  case atStart => exact ⟨0, Nat.zero_le _, rfl, Below.refl _ _⟩
  case round =>
    obtain ⟨k, hk, rfl, hbel⟩ := hrel
    by_cases hlt : k < l.length
    · obtain ⟨x, hx⟩ : ∃ z, l[k]? = some z := ⟨_, List.getElem?_eq_getElem hlt⟩
      obtain ⟨g1, o1, rfl, c1, c2, l1⟩ := ha.blob hx
      obtain ⟨g2, o2, rfl, d1, d2, l2⟩ := hb.blob hx
      have e1 := (hbel.cell (p := ⟨g1, o1 + k * 2, none⟩) l1).trans c1
      have e2 := (hbel.cell (p := ⟨g1, o1 + k * 2 + 1, none⟩) l1).trans c2
      have e3 := (hbel.cell (p := ⟨g2, o2 + k * 2, none⟩) l2).trans d1
      have e4 := (hbel.cell (p := ⟨g2, o2 + k * 2 + 1, none⟩) l2).trans d2
      have hlti : (k : Int) < (l.length : Int) := by omega
      have HE := mkHid (fun wx => eq_same x.1 x.2 wx)
      have HB := mkHid hbel
      have C := mkHid (And.intro e1 (And.intro e2 (And.intro e3 e4)))
      clear ha hb hx c1 c2 d1 d2 hbel
      go_wp2_with fail
      go_region_held3 (fun w' => w'.cell? ⟨g1, o1 + k * 2, none⟩ = some (.int .i64 x.1) ∧ w'.cell? ⟨g1, o1 + k * 2 + 1, none⟩ = some (.string x.2) ∧ w'.cell? ⟨g2, o2 + k * 2, none⟩ = some (.int .i64 x.1) ∧ w'.cell? ⟨g2, o2 + k * 2 + 1, none⟩ = some (.string x.2)) (go_keep)
        ((go_at_call 56; refine Calls.mono (HE.out _) ?_; rintro e w1 ⟨rfl, hb1⟩; have hr := re (w := wr) hb1 rfl rfl rfl rfl; have B1 := mkHid (HB.out.trans (hr.mono HB.out.size)); have q1 := (hr.cell (p := ⟨g1, o1 + k * 2, none⟩) (World.block_lt_of_cell? wr _ C.out.1)).trans C.out.1; have q2 := (hr.cell (p := ⟨g1, o1 + k * 2 + 1, none⟩) (World.block_lt_of_cell? wr _ C.out.2.1)).trans C.out.2.1; have q3 := (hr.cell (p := ⟨g2, o2 + k * 2, none⟩) (World.block_lt_of_cell? wr _ C.out.2.2.1)).trans C.out.2.2.1; have q4 := (hr.cell (p := ⟨g2, o2 + k * 2 + 1, none⟩) (World.block_lt_of_cell? wr _ C.out.2.2.2)).trans C.out.2.2.2; clear hb1 hr))
      go_wp2
      go_roundw
      case rel => exact ⟨k + 1, by omega, by go_num, B1.out⟩
      case measure => simp [intOf]; omega
    · obtain rfl : k = l.length := by omega
      go_wp2
      go_ret
      exact ⟨rfl, hbel⟩
set_option maxRecDepth 100000 in
set_option maxHeartbeats 1000000 in
theorem eqES_same (a b : Option Addr) (ca cb : Nat) (l : List (ByteArray × Int × Int × Int)) (w : World) (hl : l.length ≤ 1048576) (ha : Rd w a (en l)) (hb : Rd w b (en l)) :
    Calls Tryd.prog 31 #[.slice a l.length ca, .slice b l.length cb] w fun e w' => e = .returned (.bool true) ∧ Below w.heap.size w w' := by
  go_enter Tryd.func31, Tryd.ntmps31
  go_wp2
  go_loopw [5] (fun i wr => ∃ k : Nat, k ≤ l.length ∧ i = .int .i64 k ∧ Below w.heap.size w wr)
    (fun i _ => l.length - (intOf i).toNat)
  case atStart => exact ⟨0, Nat.zero_le _, rfl, Below.refl _ _⟩
  case round =>
    obtain ⟨k, hk, rfl, hbel⟩ := hrel
    by_cases hlt : k < l.length
    · obtain ⟨x, hx⟩ : ∃ z, l[k]? = some z := ⟨_, List.getElem?_eq_getElem hlt⟩
      obtain ⟨x0, x1, x2, x3⟩ := x
      obtain ⟨g1, o1, rfl, c1, c2, c3, c4, l1⟩ := ha.entry hx
      obtain ⟨g2, o2, rfl, d1, d2, d3, d4, l2⟩ := hb.entry hx
      have e1 := (hbel.cell (p := ⟨g1, o1 + k * 4, none⟩) l1).trans c1
      have e2 := (hbel.cell (p := ⟨g1, o1 + k * 4 + 1, none⟩) l1).trans c2
      have e3 := (hbel.cell (p := ⟨g1, o1 + k * 4 + 2, none⟩) l1).trans c3
      have e4 := (hbel.cell (p := ⟨g1, o1 + k * 4 + 3, none⟩) l1).trans c4
      have f1 := (hbel.cell (p := ⟨g2, o2 + k * 4, none⟩) l2).trans d1
      have f2 := (hbel.cell (p := ⟨g2, o2 + k * 4 + 1, none⟩) l2).trans d2
      have f3 := (hbel.cell (p := ⟨g2, o2 + k * 4 + 2, none⟩) l2).trans d3
      have f4 := (hbel.cell (p := ⟨g2, o2 + k * 4 + 3, none⟩) l2).trans d4
      have hlti : (k : Int) < (l.length : Int) := by omega
      have HE := mkHid (fun wx => eqE_same x0 x1 x2 x3 wx)
      have HB := mkHid hbel
      have C := mkHid (And.intro e1 (And.intro e2 (And.intro e3 (And.intro e4 (And.intro f1 (And.intro f2 (And.intro f3 f4)))))))
      clear ha hb hx c1 c2 c3 c4 d1 d2 d3 d4 hbel
      go_wp2_with fail
      go_region_held3 (fun w' => w'.cell? ⟨g1, o1 + k * 4, none⟩ = some (.string x0) ∧ w'.cell? ⟨g1, o1 + k * 4 + 1, none⟩ = some (.int .i64 x1) ∧ w'.cell? ⟨g1, o1 + k * 4 + 2, none⟩ = some (.int .i64 x2) ∧ w'.cell? ⟨g1, o1 + k * 4 + 3, none⟩ = some (.int .i64 x3) ∧ w'.cell? ⟨g2, o2 + k * 4, none⟩ = some (.string x0) ∧ w'.cell? ⟨g2, o2 + k * 4 + 1, none⟩ = some (.int .i64 x1) ∧ w'.cell? ⟨g2, o2 + k * 4 + 2, none⟩ = some (.int .i64 x2) ∧ w'.cell? ⟨g2, o2 + k * 4 + 3, none⟩ = some (.int .i64 x3)) (go_keep)
        ((go_at_call 60; refine Calls.mono (HE.out _) ?_; rintro e w1 ⟨rfl, hb1⟩; have hr := re (w := wr) hb1 rfl rfl rfl rfl; have B1 := mkHid (HB.out.trans (hr.mono HB.out.size)); have q1 := (hr.cell (p := ⟨g1, o1 + k * 4, none⟩) (World.block_lt_of_cell? wr _ C.out.1)).trans C.out.1; have q2 := (hr.cell (p := ⟨g1, o1 + k * 4 + 1, none⟩) (World.block_lt_of_cell? wr _ C.out.2.1)).trans C.out.2.1; have q3 := (hr.cell (p := ⟨g1, o1 + k * 4 + 2, none⟩) (World.block_lt_of_cell? wr _ C.out.2.2.1)).trans C.out.2.2.1; have q4 := (hr.cell (p := ⟨g1, o1 + k * 4 + 3, none⟩) (World.block_lt_of_cell? wr _ C.out.2.2.2.1)).trans C.out.2.2.2.1; have r1 := (hr.cell (p := ⟨g2, o2 + k * 4, none⟩) (World.block_lt_of_cell? wr _ C.out.2.2.2.2.1)).trans C.out.2.2.2.2.1; have r2 := (hr.cell (p := ⟨g2, o2 + k * 4 + 1, none⟩) (World.block_lt_of_cell? wr _ C.out.2.2.2.2.2.1)).trans C.out.2.2.2.2.2.1; have r3 := (hr.cell (p := ⟨g2, o2 + k * 4 + 2, none⟩) (World.block_lt_of_cell? wr _ C.out.2.2.2.2.2.2.1)).trans C.out.2.2.2.2.2.2.1; have r4 := (hr.cell (p := ⟨g2, o2 + k * 4 + 3, none⟩) (World.block_lt_of_cell? wr _ C.out.2.2.2.2.2.2.2)).trans C.out.2.2.2.2.2.2.2; clear hb1 hr))
      go_wp2
      go_roundw
      case rel => exact ⟨k + 1, by omega, by go_num, B1.out⟩
      case measure => simp [intOf]; omega
    · obtain rfl : k = l.length := by omega
      go_wp2
      go_ret
      exact ⟨rfl, hbel⟩
end Go.Proofs.YtfochhnaodgpeaaDoor.lwb
