/-
  Digits of sixteen read: what impl.HexRead answers.
-/
import Derived.Test.YtobojmdgdomgpaaRead
import Derived.Laws.CopyOwn
namespace Go.Proofs.Ytobojmdgdomgpaa.fnExactHexRead
open Go.ChangeShapes Go.WideShapes Go.ChangeAt Go.RowKit
open Go.Proofs.Ytobojmdgdomgpaa.base
open Go.Proofs.Ytobojmdgdomgpaa.fnExactHex
set_option linter.unusedVariables false

theorem impl_big (s : ByteArray) (w : World) (h : 20000 < s.size) (hs : s.size ≤ 1048576) :
    Calls Try.prog 7 #[.string s] w fun e w' => e = .returned (.agg #[.string ⟨#[]⟩, .int .i64 0, .int .i64 2]) ∧ Below w.heap.size w w' := by
  go_enter Try.func7, Try.ntmps7
  go_wp2
  exact bodyPost_ret (v := .agg #[.string ⟨#[]⟩, .int .i64 0, .int .i64 2]) (by simp [results, Try.results7, go_sem]) rfl ⟨rfl, (Below.refl _ _).alloc (Nat.le_refl _) _⟩

theorem impl_odd (s : ByteArray) (w : World) (h : s.size % 2 = 1) (hs : s.size ≤ 20000) :
    Calls Try.prog 7 #[.string s] w fun e w' => e = .returned (out (hexRd s.data.toList)) ∧ Below w.heap.size w w' := by
  have hl : s.data.toList.length = s.size := by rw [Array.length_toList]; rfl
  have hr : hexRd s.data.toList = none := rd_even s.size _ (by omega) (by omega)
  rw [hr]
  clear hr hl
  have m1 : ((s.size : Int) % 2 != 0) = true := by simp; omega
  go_enter Try.func7, Try.ntmps7
  go_wp2
  exact bodyPost_ret (v := .agg #[.string ⟨#[]⟩, .int .i64 0, .int .i64 3]) (by simp [results, Try.results7, go_sem]) rfl ⟨rfl, (Below.refl _ _).alloc (Nat.le_refl _) _⟩

/-- the row behind k rounds -/
def rowR (acc : List UInt8) (m : Nat) : List Value := acc.map byteV ++ List.replicate (m - acc.length) (.int .u8 0)

theorem rowR_zero (m : Nat) : (rowR [] m).toArray = madeCells #[.int .u8 0] m := by
  apply Array.ext
  · simp [rowR, madeCells]
  · intro i h1 h2
    simp [rowR, madeCells, Nat.mod_one]
theorem row_at {w : World} {g k m : Nat} {acc : List UInt8} {t : TypeId} (h : w.heap[g]? = some (.cells (rowR acc m).toArray t (0, 0))) (hk : acc.length = k) (hlt : k < m) : w.cell? ⟨g, k, none⟩ = some (.int .u8 0) := by
  rw [cell_of_row w g k _ t (0, 0) h]
  subst hk
  simp only [rowR, List.getElem?_toArray]
  rw [List.getElem?_append_right (by simp), List.length_map, Nat.sub_self, List.getElem?_replicate, if_pos (by omega)]
theorem or_all : ∀ x y : Fin 16, bits BinOp.or IntKind.i64 ((x.val : Int) * 16) (y.val : Int) % 256 = 16 * (x.val : Int) + (y.val : Int) := by decide +kernel
theorem or_two (a b : Int) (ha : 0 ≤ a) (ha' : a ≤ 15) (hb : 0 ≤ b) (hb' : b ≤ 15) : bits BinOp.or IntKind.i64 (a * 16) b % 256 = 16 * a + b := by
  have h := or_all ⟨a.toNat, by omega⟩ ⟨b.toNat, by omega⟩
  simp only [Int.toNat_of_nonneg ha, Int.toNat_of_nonneg hb] at h
  exact h
theorem rowR_next (acc : List UInt8) (m k : Nat) (b : UInt8) (hk : acc.length = k) (hlt : k < m) : (rowR acc m).toArray.setIfInBounds k (byteV b) = (rowR (acc ++ [b]) m).toArray := by
  subst hk
  have e : m - acc.length = (m - (acc.length + 1)) + 1 := by omega
  simp only [rowR, List.setIfInBounds_toArray, List.length_append, List.length_cons, List.length_nil, e, List.replicate_succ]
  rw [List.set_append_right _ _ (by simp)]
  simp
theorem row_free {w : World} {g : Nat} {c : Array Value} {t : TypeId} (h : w.heap[g]? = some (.cells c t (0, 0))) (k : Nat) : w.frozen? ⟨g, k, none⟩ = false := by
  simp [World.frozen?, h]

set_option maxRecDepth 100000 in
set_option maxHeartbeats 400000 in
theorem impl_any (s : ByteArray) (m : Nat) (w : World) (hm : s.size = 2 * m) (hs : s.size ≤ 20000) :
    Calls Try.prog 7 #[.string s] w fun e w' => e = .returned (out (hexRd s.data.toList)) ∧ Below w.heap.size w w' := by
  obtain ⟨i0, hi, hz0, hz1, hz2⟩ := info_parts info5
  have m1 : ((s.size : Int) % 2 != 0) = false := by simp; omega
  have m2 : (s.size : Int) / 2 = (m : Int) := by omega
  have m3 : m ≤ 10000 := by omega
  have HM := mkHid hm
  clear hm
  have hmk : ∀ u : World, (Instr.makeSlice 22 (.int .i64 (m : Int)) (.int .i64 (m : Int))).run Try.prog u =
      .ok (.slice (some ⟨u.heap.size, 0, none⟩) m m) (u.alloc (.cells (madeCells #[.int .u8 0] m) 5)) := fun u => by
    have h := run_make (P := Try.prog) u 22 5 i0 (.int .u8 0) Try.underlying22 hi hz0 .i64 .i64 (m : Int) (m : Int) (by omega) (Int.le_refl _) (by rw [hz2]; omega) (by omega)
    have e : (m : Int).toNat = m := by omega
    rw [e] at h
    simpa [hz1, Value.cells] using h
  go_enter Try.func7, Try.ntmps7
  go_wp2
  clear hmk
  go_loopw [22] (fun x wr => ∃ (k : Nat) (acc : List UInt8), k ≤ m ∧ x = .int .i64 (k : Int) ∧ Hid (Got s.data.toList k acc) ∧ Hid (wr.heap[w.heap.size + 1]? = some (.cells (rowR acc m).toArray 5 (0, 0))) ∧ Below (w.heap.size + 1) (w.alloc (.cells #[.string ⟨#[]⟩, .int .i64 0, .int .i64 0] 26)) wr ∧ w.heap.size + 1 < wr.heap.size)
    (fun x _ => m - (intOf x).toNat)
  case atStart => exact ⟨0, [], Nat.zero_le _, rfl, mkHid (got_zero _), mkHid (by rw [rowR_zero]; exact by simpa using heap_alloc_new (w.alloc (.cells #[.string ⟨#[]⟩, .int .i64 0, .int .i64 0] 26)) (.cells (madeCells #[.int .u8 0] m) 5)), (Below.refl _ _).alloc (by simp) _, by simp⟩
  case round =>
    obtain ⟨k, acc, hk, rfl, hgot, hrow, hbel, hz⟩ := hrel
    have hc0 : wr.cell? ⟨w.heap.size, 0, none⟩ = some (.string ⟨#[]⟩) := (hbel.cell (by simp)).trans (by simp)
    have hc1 : wr.cell? ⟨w.heap.size, 1, none⟩ = some (.int .i64 0) := (hbel.cell (by simp)).trans (by simp)
    have hc2 : wr.cell? ⟨w.heap.size, 2, none⟩ = some (.int .i64 0) := (hbel.cell (by simp)).trans (by simp)
    have hf : ∀ j, wr.frozen? ⟨w.heap.size, j, none⟩ = false := fun j => (hbel.frozen (by simp)).trans (by simp)
    have hB : Hid (Below w.heap.size w wr) := mkHid (((Below.refl _ _).alloc (Nat.le_refl _) _).trans (hbel.mono (by omega)))
    have hsz : Hid (s.size = 2 * m) := HM
    by_cases hlt : k < m
    · have h2 : 2 * k + 1 < s.size := by have := HM.out; omega
      have b1 := dv_bd s[2 * k]
      have b2 := dv_bd s[2 * k + 1]
      by_cases ha : dv s[2 * k] < 0
      · have HR : Hid (hexRd s.data.toList = none) := mkHid (got_bad hgot.out h2 (.inl ha))
        go_wp2_with ((go_at_call 16; refine (ix_any _ _).mono ?_; rintro e w' ⟨rfl, rfl⟩))
        exact bodyPost_ret (v := .agg #[.string ⟨#[]⟩, .int .i64 0, .int .i64 3]) (by simp [results, Try.results7, go_sem, hc0, hc1, hc2]) rfl ⟨by rw [HR.out]; rfl, by repeat (first | exact hB.out | refine Below.setCell ?_ (by simp) _)⟩
      · by_cases hb : dv s[2 * k + 1] < 0
        · have HR : Hid (hexRd s.data.toList = none) := mkHid (got_bad hgot.out h2 (.inr hb))
          go_wp2_with ((go_at_call 16; refine (ix_any _ _).mono ?_; rintro e w' ⟨rfl, rfl⟩))
          exact bodyPost_ret (v := .agg #[.string ⟨#[]⟩, .int .i64 0, .int .i64 3]) (by simp [results, Try.results7, go_sem, hc0, hc1, hc2]) rfl ⟨by rw [HR.out]; rfl, by repeat (first | exact hB.out | refine Below.setCell ?_ (by simp) _)⟩
        · have HR := mkHid (got_more hgot.out h2 (by omega) (by omega))
          have hd0 : wr.cell? ⟨w.heap.size + 1, k, none⟩ = some (.int .u8 0) := row_at hrow.out hgot.out.1 hlt
          have hdf : wr.frozen? ⟨w.heap.size + 1, k, none⟩ = false := row_free hrow.out k
          have hki : (k : Int) < (m : Int) := by omega
          go_wp2_with ((go_at_call 16; refine (ix_any _ _).mono ?_; rintro e w' ⟨rfl, rfl⟩))
          have e1 := or_two (dv s[2 * k]) (dv s[2 * k + 1]) (by omega) (by omega) (by omega) (by omega)
          have e2 : Value.int .u8 (bits BinOp.or IntKind.i64 (dv s[2 * k] * 16) (dv s[2 * k + 1]) % 256) = byteV (UInt8.ofNat (16 * dv s[2 * k] + dv s[2 * k + 1]).toNat) := by
            unfold byteV; rw [e1, toNat_ofNat (by omega)]; congr 1; omega
          rw [e2]
          have r1 := heap_setCell_same wr (w.heap.size + 1) k _ 5 (byteV (UInt8.ofNat (16 * dv s[2 * k] + dv s[2 * k + 1]).toNat)) hrow.out
          rw [rowR_next acc m k _ hgot.out.1 hlt] at r1
          go_roundw
          case rel => exact ⟨k + 1, _, by omega, by go_num, HR, mkHid r1, hbel.setCell (by simp) _, by simpa using hz⟩
          case measure => simp [intOf]; omega
    · obtain rfl : k = m := by omega
      have HR : Hid (hexRd s.data.toList = some acc) := mkHid (got_end hgot.out HM.out)
      have hlen := hgot.out.1
      have hconv : (convert 22 9 (.slice (some ⟨w.heap.size + 1, 0, none⟩) k k)).run Try.prog wr = .ok (.string ⟨acc.toArray⟩) wr := by
        have hr := hrow.out
        rw [← hlen]
        rw [← hlen] at hr
        refine run_convert_bytes_back wr 22 9 5 _ _ _ Try.underlying22 Try.underlying5 Try.underlying9 ?_
        intro j hj
        simp only [Addr.add_lit, Nat.zero_add]
        rw [cell_of_row wr (w.heap.size + 1) j _ 5 (0, 0) hr]
        simp [rowR, byteV, hj]
      clear hrow hgot hlen hbel hsz HM m2
      go_wp2
      exact bodyPost_ret (v := .agg #[.string ⟨acc.toArray⟩, .int .i64 0, .int .i64 0]) (by simp [results, Try.results7, go_sem, hc0, hc1, hc2]) rfl ⟨by rw [HR.out]; rfl, by repeat (first | exact hB.out | refine Below.setCell ?_ (by simp) _)⟩

end Go.Proofs.Ytobojmdgdomgpaa.fnExactHexRead
