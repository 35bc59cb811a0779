/-
  Rows of int64 in memory: what laws.toInt64S, szInt64S, eqInt64S, markInt64S and heldInt64S answer and leave. Conditions: at most 1,048,576 numbers; the numbers lie in memory; a row that is written lies in a block of its own.
-/
import Derived.Test.YthjiilbfmhnlbaaRows
import Derived.Test.YthjiilbfmhnlbaaBase
import Derived.Lib.SmallJoins
import Derived.Laws.MakeOwn
namespace Go.Proofs.Ythjiilbfmhnlbaa.ints
open Go.RowKit Go.Joins
open Go.Proofs.Ythjiilbfmhnlbaa.base
set_option linter.unusedVariables false

/-- a number as a cell -/
def intV (z : Int) : Value := .int .i64 z

/-- the numbers of a slice lie in memory -/
def Rd (w : World) (a : Option Addr) (zs : List Int) : Prop :=
  ∀ i z, zs[i]? = some z → ∃ b off, a = some ⟨b, off, none⟩ ∧ w.cell? ⟨b, off + i, none⟩ = some (.int .i64 z)

/-- a row in a block of its own -/
def Own (w : World) (g : Nat) (zs : List Int) : Prop := w.heap[g]? = some (.cells (zs.map intV).toArray 2 (0, 0))

theorem Rd.block {w w' : World} {a : Option Addr} {zs : List Int} (h : Rd w a zs) (hb : ∀ b off, a = some ⟨b, off, none⟩ → b < w.heap.size → w'.heap[b]? = w.heap[b]?) : Rd w' a zs := by
  intro i z hz
  obtain ⟨b, off, e1, e2⟩ := h i z hz
  refine ⟨b, off, e1, ?_⟩
  rw [World.cell?_of_block (w := w) (a := ⟨b, off + i, none⟩) (hb b off e1 (World.block_lt_of_cell? w _ e2))]
  exact e2
theorem Rd.below {w w' : World} {a : Option Addr} {zs : List Int} (h : Rd w a zs) (hb : Below w.heap.size w w') : Rd w' a zs := h.block fun b _ _ hl => hb.block b hl
theorem Rd.drew {w : World} {a : Option Addr} {zs : List Int} (h : Rd w a zs) : Rd w.drew a zs := h
theorem Rd.alloc {w : World} {a : Option Addr} {zs : List Int} (h : Rd w a zs) (o : Obj) : Rd (w.alloc o) a zs := h.below ((Below.refl _ _).alloc (Nat.le_refl _) o)
theorem Rd.nil (w : World) : Rd w none [] := by intro i z h; simp at h

theorem Own.lt {w : World} {g : Nat} {zs : List Int} (h : Own w g zs) : g < w.heap.size := (Array.getElem?_eq_some_iff.1 h).1
theorem Own.below {w w' : World} {g : Nat} {zs : List Int} (h : Own w g zs) (hb : Below w.heap.size w w') : Own w' g zs := (hb.block g h.lt).trans h
theorem Own.cell {w : World} {g : Nat} {zs : List Int} (h : Own w g zs) {i : Nat} {z : Int} (hz : zs[i]? = some z) : w.cell? ⟨g, i, none⟩ = some (.int .i64 z) := by
  rw [cell_of_block h]; simp [hz, intV]
theorem Own.free {w : World} {g : Nat} {zs : List Int} (h : Own w g zs) (i : Nat) : w.frozen? ⟨g, i, none⟩ = false := unfrozen_of_block h i
theorem Own.rd {w : World} {g : Nat} {zs : List Int} (h : Own w g zs) : Rd w (some ⟨g, 0, none⟩) zs := by
  intro i z hz
  exact ⟨g, 0, rfl, by simpa using h.cell hz⟩
theorem Own.set {w : World} {g : Nat} {zs : List Int} (h : Own w g zs) (i : Nat) (z : Int) : Own (w.setCell ⟨g, i, none⟩ (.int .i64 z)) g (zs.set i z) := by
  have e := block_setCell (i := i) h (.int .i64 z)
  unfold Own
  rw [e]
  congr 2
  simp [intV, List.map_set]

theorem Own.other {w : World} {g : Nat} {zs : List Int} (h : Own w g zs) (p : Addr) (v : Value) (hne : g ≠ p.block) : Own (w.setCell p v) g zs := (Below.heap_setCell w p v g hne).trans h

theorem grew_set {w w' : World} {g i : Nat} {v : Value} (h : w.grownBy w' (some g)) : w.grownBy (w'.setCell ⟨g, i, none⟩ v) (some g) :=
  ⟨h.os, h.tape, h.output, by simpa using h.size, fun k hk hne => (Below.heap_setCell w' ⟨g, i, none⟩ v k (fun e => hne (by simp at e; rw [e]))).trans (h.block k hk hne)⟩
theorem grew_refl (w : World) (r : Option Nat) : w.grownBy w r := ⟨rfl, rfl, rfl, Nat.le_refl _, fun _ _ _ => rfl⟩
theorem grew_alloc {w w' : World} {r : Option Nat} (h : w.grownBy w' r) (o : Obj) : w.grownBy (w'.alloc o) r :=
  ⟨h.os, h.tape, h.output, by have := h.size; simp; omega, fun k hk hne => (Below.heap_alloc w' o k (Nat.lt_of_lt_of_le hk h.size)).trans (h.block k hk hne)⟩
theorem grew_trans {a b c : World} {r : Option Nat} (h : a.grownBy b r) (k : b.grownBy c r) : a.grownBy c r :=
  ⟨k.os.trans h.os, k.tape.trans h.tape, k.output.trans h.output, Nat.le_trans h.size k.size, fun i hi hne => (k.block i (Nat.lt_of_lt_of_le hi h.size) hne).trans (h.block i hi hne)⟩

theorem info2 : (Try.prog.info? 2).map (fun i => (i.zero, i.size, i.bytes)) = some (some (.int .i64 0), 1, 8) := by kernel_rfl
theorem info_parts {o : Option TypeInfo} {z : Option Value} {s b : Nat} (h : o.map (fun i => (i.zero, i.size, i.bytes)) = some (z, s, b)) : ∃ i, o = some i ∧ i.zero = z ∧ i.size = s ∧ i.bytes = b := by
  cases o with
  | none => simp at h
  | some i => simp at h; exact ⟨i, rfl, h.1, h.2.1, h.2.2⟩
theorem info2s : (Try.prog.info? 2).map (·.size) = some 1 := by kernel_rfl

theorem made_row (n : Nat) : madeCells #[.int .i64 0] n = ((List.replicate n (0 : Int)).map intV).toArray := by
  apply Array.ext
  · simp [madeCells]
  · intro i h1 h2
    simp [intV, madeCells, Nat.mod_one]

theorem run_make_ints (n : Nat) (hn : n ≤ 1048576) (u : World) : (Instr.makeSlice 34 (.int .i64 (n : Int)) (.int .i64 (n : Int))).run Try.prog u =
    .ok (.slice (some ⟨u.heap.size, 0, none⟩) n n) (u.alloc (.cells ((List.replicate n (0 : Int)).map intV).toArray 2)) := by
  obtain ⟨i0, hi, hz0, hz1, hz2⟩ := info_parts info2
  have h := run_make (P := Try.prog) u 34 2 i0 (.int .i64 0) Try.underlying34 hi hz0 .i64 .i64 (n : Int) (n : Int) (by omega) (Int.le_refl _) (by rw [hz2]; omega) (by omega)
  have e : (n : Int).toNat = n := by omega
  rw [e] at h
  rw [← made_row]
  simpa [hz1, Value.cells] using h

/-- k numbers are there, the rest is 0 -/
def part (zs : List Int) (k : Nat) : List Int := zs.take k ++ List.replicate (zs.length - k) 0
theorem part_zero (zs : List Int) : part zs 0 = List.replicate zs.length 0 := by simp [part]
theorem part_all (zs : List Int) : part zs zs.length = zs := by simp [part]
theorem part_len (zs : List Int) (k : Nat) (hk : k ≤ zs.length) : (part zs k).length = zs.length := by simp [part]; omega
theorem part_next (zs : List Int) (k : Nat) (z : Int) (hk : k < zs.length) (hz : zs[k]? = some z) : (part zs k).set k z = part zs (k + 1) := by
  unfold part
  have e : zs.length - k = (zs.length - (k + 1)) + 1 := by omega
  rw [e, List.replicate_succ, List.set_append_right _ _ (by simp; omega)]
  have e2 : (zs.take k).length = k := by simp; omega
  rw [e2, Nat.sub_self, List.set_cons_zero, List.take_add_one, hz]
  simp

set_option maxRecDepth 100000 in
theorem to_any (a : Option Addr) (cap : Nat) (zs : List Int) (w : World) (hl : zs.length ≤ 1048576) (hr : Rd w a zs) :
    Calls Try.prog 38 #[.slice a zs.length cap] w fun e w' => e = .returned (.slice (some ⟨w.heap.size, 0, none⟩) zs.length zs.length) ∧ Own w' w.heap.size zs ∧ Below w.heap.size w w' := by
  have hmk := run_make_ints zs.length hl
  go_enter Try.func38, Try.ntmps38
  go_wp2
  clear hmk
  go_loopw [4] (fun i wr => ∃ k : Nat, k ≤ zs.length ∧ i = .int .i64 k ∧ Hid (Own wr w.heap.size (part zs k)) ∧ Below w.heap.size w wr)
    (fun i _ => zs.length - (intOf i).toNat)
  case atStart => exact ⟨0, Nat.zero_le _, rfl, mkHid (by unfold Own; rw [part_zero]; exact (heap_alloc_new w _).trans (by simp)), (Below.refl _ _).alloc (Nat.le_refl _) _⟩
  case round =>
    obtain ⟨k, hk, rfl, hrow, hbel⟩ := hrel
    by_cases hlt : k < zs.length
    · obtain ⟨z, hz⟩ : ∃ z, zs[k]? = some z := ⟨_, List.getElem?_eq_getElem hlt⟩
      obtain ⟨b, off, rfl, hc⟩ := hr k z hz
      have hb : b < w.heap.size := World.block_lt_of_cell? w ⟨b, off + k, none⟩ hc
      have hcell : wr.cell? ⟨b, off + k, none⟩ = some (.int .i64 z) := (hbel.cell (p := ⟨b, off + k, none⟩) hb).trans hc
      obtain ⟨y, hy⟩ : ∃ y, (part zs k)[k]? = some y := ⟨_, List.getElem?_eq_getElem (by rw [part_len zs k hk]; exact hlt)⟩
      have hcell2 : wr.cell? ⟨w.heap.size, k, none⟩ = some (.int .i64 y) := hrow.out.cell hy
      have hf : wr.frozen? ⟨w.heap.size, k, none⟩ = false := hrow.out.free k
      have N1 : Hid (Own (wr.setCell ⟨w.heap.size, k, none⟩ (.int .i64 z)) w.heap.size (part zs (k + 1))) := by
        rw [← part_next zs k z hlt hz]; exact hrow.out.set k z
      have hlti : (k : Int) < (zs.length : Int) := by omega
      clear hrow hc hy
      go_wp2
      go_roundw
      case rel => exact ⟨k + 1, by omega, by go_num, N1, hbel.setCell (Nat.le_refl _) _⟩
      case measure => simp [intOf]; omega
    · obtain rfl : k = zs.length := by omega
      have R := hrow.out
      rw [part_all] at R
      have R' := mkHid R
      clear R hrow
      go_wp2
      go_ret
      exact ⟨rfl, R'.out, hbel⟩

theorem ret_eq {b c : Bool} (h : b = c) : Ending.returned (.bool b) = .returned (.bool c) := by rw [h]

set_option maxRecDepth 100000 in
theorem eq_any (a b : Option Addr) (ca cb : Nat) (xs ys : List Int) (w : World) (hx : xs.length ≤ 1048576) (hy : ys.length ≤ 1048576) (ha : Rd w a xs) (hb : Rd w b ys) :
    Calls Try.prog 39 #[.slice a xs.length ca, .slice b ys.length cb] w fun e w' => e = .returned (.bool (decide (xs = ys))) ∧ Below w.heap.size w w' := by
  go_enter Try.func39, Try.ntmps39
  by_cases hl : xs.length = ys.length
  · have hli : (xs.length : Int) = (ys.length : Int) := by omega
    go_wp2
    go_loopw [5] (fun i wr => ∃ k : Nat, k ≤ xs.length ∧ i = .int .i64 k ∧ Hid (xs.take k = ys.take k) ∧ Below w.heap.size w wr)
      (fun i _ => xs.length - (intOf i).toNat)
    case atStart => exact ⟨0, Nat.zero_le _, rfl, mkHid (by simp), Below.refl _ _⟩
    case round =>
      obtain ⟨k, hk, rfl, heq, hbel⟩ := hrel
      by_cases hlt : k < xs.length
      · obtain ⟨x, hxk⟩ : ∃ z, xs[k]? = some z := ⟨_, List.getElem?_eq_getElem hlt⟩
        obtain ⟨y, hyk⟩ : ∃ z, ys[k]? = some z := ⟨_, List.getElem?_eq_getElem (by omega)⟩
        obtain ⟨b1, off1, rfl, hc1⟩ := ha k x hxk
        obtain ⟨b2, off2, rfl, hc2⟩ := hb k y hyk
        have hcell1 : wr.cell? ⟨b1, off1 + k, none⟩ = some (.int .i64 x) := (hbel.cell (p := ⟨b1, off1 + k, none⟩) (World.block_lt_of_cell? w _ hc1)).trans hc1
        have hcell2 : wr.cell? ⟨b2, off2 + k, none⟩ = some (.int .i64 y) := (hbel.cell (p := ⟨b2, off2 + k, none⟩) (World.block_lt_of_cell? w _ hc2)).trans hc2
        have hlti : (k : Int) < (xs.length : Int) := by omega
        have hlti2 : (k : Int) < (ys.length : Int) := by omega
        by_cases hxy : x = y
        · have N : Hid (xs.take (k + 1) = ys.take (k + 1)) := by
            show xs.take (k + 1) = ys.take (k + 1)
            rw [List.take_add_one, List.take_add_one, heq.out, hxk, hyk, hxy]
          clear heq hc1 hc2 hxk hyk
          go_wp2
          go_region
          go_wp2
          go_roundw
          case rel => exact ⟨k + 1, by omega, by go_num, N, by repeat (first | exact hbel | apply Below.drew)⟩
          case measure => simp [intOf]; omega
        · have hne : decide (xs = ys) = false := by
            apply decide_eq_false
            intro e
            subst e
            rw [hxk] at hyk
            exact hxy (Option.some.inj hyk)
          clear heq hc1 hc2 hxk hyk
          go_wp2
          go_region
          go_wp2
          go_ret
          exact ⟨ret_eq hne.symm, by repeat (first | exact hbel | apply Below.drew)⟩
      · obtain rfl : k = xs.length := by omega
        have e : decide (xs = ys) = true := by
          have h := heq.out
          rw [List.take_of_length_le (Nat.le_refl _), List.take_of_length_le (by omega)] at h
          exact decide_eq_true h
        clear heq
        go_wp2
        go_ret
        exact ⟨ret_eq e.symm, hbel⟩
  · have hli : ¬ ((xs.length : Int) = (ys.length : Int)) := by omega
    have e : decide (xs = ys) = false := decide_eq_false (fun e => hl (by rw [e]))
    go_wp2
    go_ret
    exact ⟨ret_eq e.symm, Below.refl _ _⟩

/-- numbers from k on, n of them -/
def from_ (k : Int) (n : Nat) : List Int := (List.range n).map fun (i : Nat) => k + (i : Int)
theorem from_len (k : Int) (n : Nat) : (from_ k n).length = n := by simp [from_]
theorem from_at (k : Int) (n i : Nat) (h : i < n) : (from_ k n)[i]? = some (k + (i : Int)) := by simp [from_, h]
/-- i numbers are marked -/
def marked (k : Int) (zs : List Int) (i : Nat) : List Int := (from_ k zs.length).take i ++ zs.drop i
theorem marked_zero (k : Int) (zs : List Int) : marked k zs 0 = zs := by simp [marked]
theorem marked_all (k : Int) (zs : List Int) : marked k zs zs.length = from_ k zs.length := by
  unfold marked
  rw [List.take_of_length_le (by rw [from_len]; exact Nat.le_refl _)]
  simp
theorem marked_len (k : Int) (zs : List Int) (i : Nat) (h : i ≤ zs.length) : (marked k zs i).length = zs.length := by simp [marked, from_len]; omega
theorem marked_next (k : Int) (zs : List Int) (i : Nat) (h : i < zs.length) : (marked k zs i).set i (k + (i : Int)) = marked k zs (i + 1) := by
  unfold marked
  have e2 : ((from_ k zs.length).take i).length = i := by simp [from_len]; omega
  rw [List.set_append_right _ _ (by rw [e2]; exact Nat.le_refl _), e2, Nat.sub_self, List.drop_eq_getElem_cons h, List.set_cons_zero, List.take_add_one, from_at k _ i h]
  simp

set_option maxRecDepth 100000 in
theorem mark_any (g cap : Nat) (zs : List Int) (m : Int) (w : World) (hl : zs.length ≤ 1048576) (hm : 0 ≤ m) (hm1 : m ≤ 3000000) (hr : Own w g zs) :
    Calls Try.prog 40 #[.slice (some ⟨g, 0, none⟩) zs.length cap, .int .i64 m] w fun e w' => e = .returned (.int .i64 (m + zs.length)) ∧ Own w' g (from_ m zs.length) ∧ w.grownBy w' (some g) := by
  go_enter Try.func40, Try.ntmps40
  go_wp2
  go_loopw [1, 5] (fun c i wr => ∃ k : Nat, k ≤ zs.length ∧ i = .int .i64 k ∧ c = .int .i64 (m + k) ∧ Hid (Own wr g (marked m zs k) ∧ w.grownBy wr (some g)))
    (fun _ i _ => zs.length - (intOf i).toNat)
  case atStart => exact ⟨0, Nat.zero_le _, rfl, by simp, mkHid ⟨by rw [marked_zero]; exact hr, grew_refl _ _⟩⟩
  case round =>
    obtain ⟨k, hk, rfl, rfl, hrow⟩ := hrel
    by_cases hlt : k < zs.length
    · obtain ⟨y, hy⟩ : ∃ y, (marked m zs k)[k]? = some y := ⟨_, List.getElem?_eq_getElem (by rw [marked_len m zs k hk]; exact hlt)⟩
      have hcell2 : wr.cell? ⟨g, k, none⟩ = some (.int .i64 y) := hrow.out.1.cell hy
      have hf : wr.frozen? ⟨g, k, none⟩ = false := hrow.out.1.free k
      have N1 : Hid (Own (wr.setCell ⟨g, k, none⟩ (.int .i64 (m + k))) g (marked m zs (k + 1)) ∧ w.grownBy (wr.setCell ⟨g, k, none⟩ (.int .i64 (m + k))) (some g)) := by
        refine mkHid ⟨?_, grew_set hrow.out.2⟩
        rw [← marked_next m zs k hlt]; exact hrow.out.1.set k _
      have hlti : (k : Int) < (zs.length : Int) := by omega
      have hki : (k : Int) ≤ 1048576 := by omega
      clear hrow hy hr
      go_wp2
      go_roundw
      case rel => exact ⟨k + 1, by omega, by go_num, by go_num, N1⟩
      case measure => simp [intOf]; omega
    · obtain rfl : k = zs.length := by omega
      have R := hrow.out
      rw [marked_all] at R
      have R' := mkHid R
      clear R hrow hr
      go_wp2
      go_ret
      exact ⟨rfl, R'.out.1, R'.out.2⟩

theorem mark_nil (cap : Nat) (a : Option Addr) (m : Int) (w : World) :
    Calls Try.prog 40 #[.slice a 0 cap, .int .i64 m] w fun e w' => e = .returned (.int .i64 m) ∧ w' = w := by
  go_enter Try.func40, Try.ntmps40
  go_wp2
  go_loopw [1, 5] (fun c i wr => i = .int .i64 0 ∧ c = .int .i64 m ∧ wr = w) (fun _ i _ => 0)
  case atStart => exact ⟨rfl, rfl, rfl⟩
  case round =>
    obtain ⟨rfl, rfl, rfl⟩ := hrel
    go_wp2
    go_ret
    exact ⟨rfl, rfl⟩

end Go.Proofs.Ythjiilbfmhnlbaa.ints
