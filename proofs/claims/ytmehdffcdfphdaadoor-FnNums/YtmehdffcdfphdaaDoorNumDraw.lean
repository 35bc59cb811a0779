/-
  What spec.DrawPutNum and spec.DrawPutText answer: a number of int64, a text of at most 20,001 bytes; nothing that was there turns. Condition: the bytes lie in memory and are at most 1,048,576.
-/
import Derived.Test.YtmehdffcdfphdaaDoorTexts
namespace Go.Proofs.YtmehdffcdfphdaaDoor.numdraw
open Go.RowKit
open Go.Proofs.YtmehdffcdfphdaaDoor.base Go.Proofs.YtmehdffcdfphdaaDoor.draw
set_option linter.unusedVariables false

/-- a number is drawn -/
def DrewNum (w : World) (g : Nat) (e : Ending) (w' : World) : Prop :=
  ∃ r : Int, e = .returned (.int .i64 r) ∧ -9223372036854775808 ≤ r ∧ r ≤ 9223372036854775807 ∧ SrcAt w' g ∧ w.grownBy w' (some g)

def edges : List Int := [0, 1, -1, 2, 1000, 1001, 2147483648, 2147483647, -2147483648, 4611686018427387904, 9223372036854775807, -9223372036854775808, 1000000, 1000001]

/-- the row of edges lies in block q -/
theorem edge_cell {w w1 : World} {g : Nat} (hg : (w.alloc (.cells #[.int .i64 0, .int .i64 1, .int .i64 (-1), .int .i64 2, .int .i64 1000, .int .i64 1001, .int .i64 2147483648, .int .i64 2147483647, .int .i64 (-2147483648), .int .i64 4611686018427387904, .int .i64 9223372036854775807, .int .i64 (-9223372036854775808), .int .i64 1000000, .int .i64 1000001] 2)).grownBy w1 (some g)) (hl : g < w.heap.size) (r : Nat) (hr : r < 14) :
    ∃ v : Int, w1.cell? ⟨w.heap.size, r, none⟩ = some (.int .i64 v) ∧ -9223372036854775808 ≤ v ∧ v ≤ 9223372036854775807 := by
  have key : ∀ (v : Int), (w.alloc (.cells #[.int .i64 0, .int .i64 1, .int .i64 (-1), .int .i64 2, .int .i64 1000, .int .i64 1001, .int .i64 2147483648, .int .i64 2147483647, .int .i64 (-2147483648), .int .i64 4611686018427387904, .int .i64 9223372036854775807, .int .i64 (-9223372036854775808), .int .i64 1000000, .int .i64 1000001] 2)).cell? ⟨w.heap.size, r, none⟩ = some (.int .i64 v) → w1.cell? ⟨w.heap.size, r, none⟩ = some (.int .i64 v) :=
    fun v h => hg.cell h (by simp; omega)
  match r, hr with
  | 0, _ => exact ⟨0, key _ (by simp), by omega, by omega⟩
  | 1, _ => exact ⟨1, key _ (by simp), by omega, by omega⟩
  | 2, _ => exact ⟨-1, key _ (by simp), by omega, by omega⟩
  | 3, _ => exact ⟨2, key _ (by simp), by omega, by omega⟩
  | 4, _ => exact ⟨1000, key _ (by simp), by omega, by omega⟩
  | 5, _ => exact ⟨1001, key _ (by simp), by omega, by omega⟩
  | 6, _ => exact ⟨2147483648, key _ (by simp), by omega, by omega⟩
  | 7, _ => exact ⟨2147483647, key _ (by simp), by omega, by omega⟩
  | 8, _ => exact ⟨-2147483648, key _ (by simp), by omega, by omega⟩
  | 9, _ => exact ⟨4611686018427387904, key _ (by simp), by omega, by omega⟩
  | 10, _ => exact ⟨9223372036854775807, key _ (by simp), by omega, by omega⟩
  | 11, _ => exact ⟨-9223372036854775808, key _ (by simp), by omega, by omega⟩
  | 12, _ => exact ⟨1000000, key _ (by simp), by omega, by omega⟩
  | 13, _ => exact ⟨1000001, key _ (by simp), by omega, by omega⟩

set_option maxRecDepth 100000 in
set_option maxHeartbeats 1000000 in
theorem edge_any (g : Nat) (w : World) (h : SrcAt w g) :
    Calls Tryd.prog 22 #[.pointer (some ⟨g, 0, none⟩)] w fun e w' => DrewNum w g e w' := by
  have hgl := h.lt
  go_enter Tryd.func22, Tryd.ntmps22
  go_wp2_with fail
  refine (n_any g 14 _ (by omega) (h.below ((Below.refl _ _).alloc (Nat.le_refl _) _))).mono ?_
  rintro e w1 ⟨r, rfl, hr0, hr1, _, hs1, hg1⟩
  obtain ⟨R, rfl⟩ := Int.eq_ofNat_of_zero_le hr0
  have hR : R < 14 := by have := hr1 (by omega); omega
  have hRi : 0 ≤ (R : Int) ∧ (R : Int) < 14 := by omega
  obtain ⟨v, hc, hv0, hv1⟩ := edge_cell hg1 hgl R hR
  have H := mkHid (And.intro hs1 (grown_trans (World.grownBy_alloc _ _ _) hg1))
  have HV := mkHid (And.intro hv0 hv1)
  clear hs1 hg1 h hr0 hr1 hR hv0 hv1
  go_wp2
  go_ret
  exact ⟨_, rfl, HV.out.1, HV.out.2, H.out.1, H.out.2⟩

set_option maxRecDepth 100000 in
set_option maxHeartbeats 1000000 in
theorem any_any (g : Nat) (w : World) (h : SrcAt w g) :
    Calls Tryd.prog 13 #[.pointer (some ⟨g, 0, none⟩)] w fun e w' => DrewNum w g e w' := by
  go_enter Tryd.func13, Tryd.ntmps13
  go_wp2_with fail
  refine (one_any g 4 w (by omega) h).mono ?_
  rintro e w1 ⟨b, rfl, hs1, hg1⟩
  have H1 := mkHid (And.intro hs1 hg1)
  clear hs1 hg1 h
  cases b
  · go_wp2_with fail
    refine (n_any g 1099511627776 w1 (by omega) H1.out.1).mono ?_
    rintro e w2 ⟨r, rfl, hr0, hr1, _, hs2, hg2⟩
    have hr2 : r ≤ 1099511627775 := by have := hr1 (by omega); omega
    have H2 := mkHid (And.intro hs2 (grown_trans H1.out.2 hg2))
    clear hs2 hg2 hr1 H1
    go_wp2
    go_ret
    exact ⟨_, rfl, by omega, by omega, H2.out.1, H2.out.2⟩
  · go_wp2_with fail
    refine (edge_any g w1 H1.out.1).mono ?_
    rintro e w2 ⟨r, rfl, hr0, hr1, hs2, hg2⟩
    have H2 := mkHid (And.intro hs2 (grown_trans H1.out.2 hg2))
    have HV := mkHid (And.intro hr0 hr1)
    clear hs2 hg2 hr1 hr0 H1
    go_wp2
    go_ret
    exact ⟨_, rfl, HV.out.1, HV.out.2, H2.out.1, H2.out.2⟩

/-- a number is drawn out of bytes -/
def DNum (w : World) (e : Ending) (w' : World) : Prop := ∃ r : Int, e = .returned (.int .i64 r) ∧ -9223372036854775808 ≤ r ∧ r ≤ 9223372036854775807 ∧ Below w.heap.size w w'
/-- a text is drawn out of bytes -/
def DText (w : World) (most : Nat) (e : Ending) (w' : World) : Prop := ∃ t : ByteArray, e = .returned (.string t) ∧ t.size ≤ most ∧ Below w.heap.size w w'

theorem drawNum_any (a : Option Addr) (len cap : Nat) (w : World) (hl : len ≤ 1048576) (hr : Row w a len) :
    Calls Tryd.prog 4 #[.slice a len cap] w fun e w' => DNum w e w' := by
  go_enter Tryd.func4, Tryd.ntmps4
  go_wp2_with fail
  refine (source_any a len cap w hl hr).mono ?_
  rintro e w1 ⟨rfl, hs1, hb1⟩
  have H1 := mkHid (And.intro hs1 hb1)
  clear hs1 hb1 hr
  go_wp2_with fail
  refine (any_any w.heap.size w1 H1.out.1).mono ?_
  rintro e w2 ⟨r, rfl, hr0, hr1, hs2, hg2⟩
  have H2 := mkHid (H1.out.2.trans (grown_below hg2 (Nat.le_refl _) H1.out.2.size))
  have HV := mkHid (And.intro hr0 hr1)
  clear hr0 hr1 hs2 hg2 H1
  go_wp2
  go_ret
  exact ⟨_, rfl, HV.out.1, HV.out.2, H2.out⟩

theorem made_cell (w : World) (m j : Nat) (h : j < m) (e : TypeId) : (w.alloc (.cells (madeCells #[.int .u8 0] m) e)).cell? ((⟨w.heap.size, 0, none⟩ : Addr).add j) = some (.int .u8 0) := by
  rw [Addr.add_lit]
  simp [madeCells, Nat.mod_one, h]

set_option maxRecDepth 100000 in
set_option maxHeartbeats 1000000 in
theorem drawText_any (a : Option Addr) (len cap : Nat) (w : World) (hl : len ≤ 1048576) (hr : Row w a len) :
    Calls Tryd.prog 8 #[.slice a len cap] w fun e w' => DText w 20001 e w' := by
  obtain ⟨i0, hi, hz0, hz1, hz2⟩ := info_parts info5
  go_enter Tryd.func8, Tryd.ntmps8
  go_wp2_with fail
  refine (source_any a len cap w hl hr).mono ?_
  rintro e w1 ⟨rfl, hs1, hb1⟩
  have H1 := mkHid (And.intro hs1 hb1)
  clear hs1 hb1 hr
  go_wp2_with fail
  refine (one_any w.heap.size 8 w1 (by omega) H1.out.1).mono ?_
  rintro e w2 ⟨b, rfl, hs2, hg2⟩
  have H2 := mkHid (And.intro hs2 (H1.out.2.trans (grown_below hg2 (Nat.le_refl _) H1.out.2.size)))
  clear hs2 hg2 H1
  cases b
  · go_wp2_with fail
    refine (n_any w.heap.size 20 w2 (by omega) H2.out.1).mono ?_
    rintro e w3 ⟨r, rfl, hr0, hr1, _, hs3, hg3⟩
    obtain ⟨R, rfl⟩ := Int.eq_ofNat_of_zero_le hr0
    have hR : R < 20 := by have := hr1 (by omega); omega
    have H3 := mkHid (And.intro hs3 (H2.out.2.trans (grown_below hg3 (Nat.le_refl _) H2.out.2.size)))
    clear hr0 hr1 hs3 hg3 H2
    go_wp2_with fail
    refine (bytes_any w.heap.size R w3 (by omega) H3.out.1).mono ?_
    rintro e w4 ⟨t, rfl, ht, hs4, hg4⟩
    have H4 := mkHid (H3.out.2.trans (grown_below hg4 (Nat.le_refl _) H3.out.2.size))
    clear hs4 hg4 H3
    go_wp2
    go_ret
    exact ⟨t, rfl, by omega, H4.out⟩
  · go_wp2_with fail
    refine (n_any w.heap.size 3 w2 (by omega) H2.out.1).mono ?_
    rintro e w3 ⟨r, rfl, hr0, hr1, _, hs3, hg3⟩
    obtain ⟨m, hm⟩ : ∃ m : Nat, 19999 + r = (m : Int) := ⟨(19999 + r).toNat, by omega⟩
    have hm2 : m ≤ 20001 := by have := hr1 (by omega); omega
    obtain rfl : r = (m : Int) - 19999 := by omega
    have H3 := mkHid (And.intro hs3 (H2.out.2.trans (grown_below hg3 (Nat.le_refl _) H2.out.2.size)))
    clear hr1 hs3 hg3 H2 hm
    have hmk : ∀ u : World, (Instr.makeSlice 22 (.int .i64 (m : Int)) (.int .i64 (m : Int))).run Tryd.prog u =
        .ok (.slice (some ⟨u.heap.size, 0, none⟩) m m) (u.alloc (.cells (madeCells #[.int .u8 0] m) 5)) := fun u => by
      have h := run_make (P := Tryd.prog) u 22 5 i0 (.int .u8 0) Tryd.underlying22 hi hz0 .i64 .i64 (m : Int) (m : Int) (by omega) (Int.le_refl _) (by rw [hz2]; omega) (by omega)
      have e : (m : Int).toNat = m := by omega
      rw [e] at h
      simpa [hz1, Value.cells] using h
    have hsum : (19999 : Int) + ((m : Int) - 19999) = (m : Int) := by omega
    have hconv := run_convert_bytes_back (P := Tryd.prog) (w3.alloc (.cells (madeCells #[.int .u8 0] m) 5)) 22 9 5 (⟨w3.heap.size, 0, none⟩ : Addr) m (List.replicate m 0) Tryd.underlying22 Tryd.underlying5 Tryd.underlying9 (fun j hj => by
      rw [List.length_replicate] at hj
      rw [made_cell w3 m j hj 5]
      simp)
    rw [List.length_replicate] at hconv
    go_wp2
    go_ret
    exact ⟨_, rfl, by simp [ByteArray.size]; omega, H3.out.2.alloc H3.out.2.size _⟩

end Go.Proofs.YtmehdffcdfphdaaDoor.numdraw
