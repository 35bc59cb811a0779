/-
  impl.Hex: what it answers.
-/
import Derived.Test.YtaepdmeghfbngaaDoorHex
import Derived.Laws.CopyOwn
namespace Go.Proofs.YtaepdmeghfbngaaDoor.fnExactHex
open Go.ChangeShapes Go.WideShapes Go.ChangeAt Go.RowKit
open Go.Proofs.YtaepdmeghfbngaaDoor.base
set_option linter.unusedVariables false

theorem and15 (c : UInt8) : bits BinOp.and IntKind.u8 (c.toNat : Int) 15 = (c.toNat : Int) % 16 := by
  have hc := c.toNat_lt
  rw [u8_and _ _ (by omega) (by omega) (by omega) (by omega)]
  have e : ((c.toNat : Int)).toNat = c.toNat := by omega
  have e2 : (15 : Int).toNat = 15 := rfl
  rw [e, e2, nat_mask4]
  omega
theorem at_hi (c : UInt8) : ∀ h, (⟨#[48, 49, 50, 51, 52, 53, 54, 55, 56, 57, 97, 98, 99, 100, 101, 102]⟩ : ByteArray)[((c.toNat : Int) / 16).toNat]'h = hd (c.toNat / 16) := by
  have hc := c.toNat_lt
  have e : ((c.toNat : Int) / 16).toNat = c.toNat / 16 := by omega
  simp only [e]
  intro _
  exact dig_at ⟨c.toNat / 16, by omega⟩
theorem at_lo (c : UInt8) : ∀ h, (⟨#[48, 49, 50, 51, 52, 53, 54, 55, 56, 57, 97, 98, 99, 100, 101, 102]⟩ : ByteArray)[((c.toNat : Int) % 16).toNat]'h = hd (c.toNat % 16) := by
  have e : ((c.toNat : Int) % 16).toNat = c.toNat % 16 := by omega
  simp only [e]
  intro _
  exact dig_at ⟨c.toNat % 16, by omega⟩

theorem pair_any (c : UInt8) (w : World) :
    Calls Tryd.prog 13 #[.int .u8 c.toNat] w fun e w' => e = .returned (.agg #[.int .u8 (hd (c.toNat / 16)).toNat, .int .u8 (hd (c.toNat % 16)).toNat]) ∧ Below w.heap.size w w' := by
  have hc := c.toNat_lt
  have a1 : 0 ≤ (c.toNat : Int) / 16 := by omega
  have a2 : (c.toNat : Int) / 16 < 16 := by omega
  have a3 : 0 ≤ (c.toNat : Int) % 16 := by omega
  have a4 : (c.toNat : Int) % 16 < 16 := by omega
  have a5 := and15 c
  have a6 := at_hi c
  have a7 := at_lo c
  go_enter Tryd.func13, Tryd.ntmps13
  go_wp2
  go_region
  go_wp2
  exact bodyPost_ret (v := .agg #[.int .u8 (hd (c.toNat / 16)).toNat, .int .u8 (hd (c.toNat % 16)).toNat]) (by simp [results, Tryd.results13, go_sem]) rfl ⟨rfl, ((Below.refl _ _).alloc (Nat.le_refl _) _).drew⟩

/-- the row behind k rounds -/
def rowL (s : ByteArray) (k : Nat) : List Value := (hexL (s.data.toList.take k)).map byteV ++ List.replicate (2 * (s.size - k)) (.int .u8 0)

theorem len_take (s : ByteArray) (k : Nat) (hk : k ≤ s.size) : (hexL (s.data.toList.take k)).length = 2 * k := by
  rw [hexL_len, List.length_take]
  have e : s.data.toList.length = s.size := by rw [Array.length_toList]; rfl
  rw [e]; omega
theorem rowL_len (s : ByteArray) (k : Nat) (hk : k ≤ s.size) : (rowL s k).length = 2 * s.size := by
  simp only [rowL, List.length_append, List.length_map, len_take s k hk, List.length_replicate]
  omega
theorem rowL_zero (s : ByteArray) : (rowL s 0).toArray = madeCells #[.int .u8 0] (2 * s.size) := by
  apply Array.ext
  · simp [rowL, hexL, madeCells]
  · intro i h1 h2
    simp [rowL, hexL, madeCells, Nat.mod_one]
theorem rowL_next (s : ByteArray) (k : Nat) (hlt : k < s.size) :
    splice (rowL s k) (2 * k) [.int .u8 ((hd (s[k].toNat / 16)).toNat : Int), .int .u8 ((hd (s[k].toNat % 16)).toNat : Int)] = rowL s (k + 1) := by
  have hl := len_take s k (by omega)
  have e : 2 * (s.size - k) = 2 + 2 * (s.size - (k + 1)) := by omega
  unfold splice rowL
  rw [take_snoc s k hlt, hexL_snoc, e]
  generalize hexL (s.data.toList.take k) = A at *
  have h1 : ((A.map byteV) ++ List.replicate (2 + 2 * (s.size - (k + 1))) (Value.int .u8 0)).take (2 * k) = A.map byteV := by
    rw [List.take_append_of_le_length (by simp [hl]), List.take_of_length_le (by simp [hl])]
  have h2 : ((A.map byteV) ++ List.replicate (2 + 2 * (s.size - (k + 1))) (Value.int .u8 0)).drop (2 * k + 2) = List.replicate (2 * (s.size - (k + 1))) (Value.int .u8 0) := by
    rw [List.drop_append, List.drop_of_length_le (by simp [hl])]
    simp [hl]
  simp only [List.length_cons, List.length_nil]
  rw [h1, h2]
  simp [byteV]
theorem wrap_two (k : Nat) (h : k ≤ 20000) : IntKind.i64.wrap (2 * (k : Int)) = 2 * (k : Int) := by
  simp [IntKind.wrap, IntKind.bits, IntKind.signed]; omega
theorem two_min {n : Nat} {x y : Value} (h : 2 ≤ n) : [x, y].length = Nat.min 2 n := by
  simp [h]
theorem info5' : (Tryd.prog.info? 5).map (·.size) = some 1 := by kernel_rfl

set_option maxRecDepth 100000 in
theorem impl_any (s : ByteArray) (w : World) (hs : s.size ≤ 20000) :
    Calls Tryd.prog 8 #[.string s] w fun e w' => e = .returned (.string ⟨(hexL s.data.toList).toArray⟩) ∧ Below w.heap.size w w' := by
  obtain ⟨i0, hi, hz0, hz1, hz2⟩ := info_parts info5
  have hmk : ∀ u : World, (Instr.makeSlice 24 (.int .i64 (2 * (s.size : Int))) (.int .i64 (2 * (s.size : Int)))).run Tryd.prog u =
      .ok (.slice (some ⟨u.heap.size, 0, none⟩) (2 * s.size) (2 * s.size)) (u.alloc (.cells (madeCells #[.int .u8 0] (2 * s.size)) 5)) := fun u => by
    have h := run_make (P := Tryd.prog) u 24 5 i0 (.int .u8 0) Tryd.underlying24 hi hz0 .i64 .i64 (2 * (s.size : Int)) (2 * (s.size : Int)) (by omega) (Int.le_refl _) (by rw [hz2]; omega) (by omega)
    have e : (2 * (s.size : Int)).toNat = 2 * s.size := by omega
    rw [e] at h
    simpa [hz1, Value.cells] using h
  go_enter Tryd.func8, Tryd.ntmps8
  go_wp2
  clear hmk
  go_loopw [4] (fun i wr => ∃ k : Nat, k ≤ s.size ∧ i = .int .i64 k ∧ Hid (wr.heap[w.heap.size]? = some (.cells (rowL s k).toArray 5 (0, 0))) ∧ Below w.heap.size w wr ∧ w.heap.size < wr.heap.size)
    (fun i _ => s.size - (intOf i).toNat)
  case atStart => exact ⟨0, Nat.zero_le _, rfl, mkHid (by rw [rowL_zero]; exact heap_alloc_new w _), (Below.refl _ _).alloc (Nat.le_refl _) _, by simp⟩
  case round =>
    obtain ⟨k, hk, rfl, hrow, hbel, hsz⟩ := hrel
    by_cases hlt : k < s.size
    · go_wp2_with fail
      refine (pair_any _ _).mono ?_
      rintro e w1 ⟨rfl, hb1⟩
      have hz := hb1.size
      have HG : ∀ o, ((w1.alloc o).drew).heap[w.heap.size]? = some (.cells (rowL s k).toArray 5 (0, 0)) := fun o =>
        ((Below.heap_alloc w1 o _ (by omega)).trans (hb1.block _ hsz)).trans hrow.out
      have HB : ∀ o, Below w.heap.size w ((w1.alloc o).drew) := fun o => ((hbel.trans (hb1.mono hbel.size)).alloc (by omega) o).drew
      have hG := mkHid HG
      have hB := mkHid HB
      clear HG HB hb1 hrow hbel
      have hlen := rowL_len s k hk
      have hL : 2 * k + 2 ≤ (rowL s k).length := by omega
      clear hlen
      have c0 : IntKind.i64.wrap (2 * (k : Int)) = 2 * (k : Int) := wrap_two k (by omega)
      have c1 : (2 * (k : Int)) ≤ 2 * (s.size : Int) := by omega
      have c2 : 0 ≤ 2 * (k : Int) := by omega
      have c3 : (2 * (k : Int)).toNat = 2 * k := by omega
      have c4 : ¬ (2 * s.size = 2 * k) := by omega
      have c5 : ¬ (s.size = k) := by omega
      have c6 : 2 ≤ 2 * s.size - 2 * k := by omega
      go_wp2
      go_region_law (refine step_copy_splice rfl (.tmp 26) (.tmp 27) 24 24 rfl 5 Tryd.underlying24 info5' (some ⟨w.heap.size, 2 * k, none⟩) (some ⟨w1.heap.size, 0, none⟩) (2 * s.size - 2 * k) (2 * s.size - 2 * k) 2 2 (by simp [Act.eval, Act.put]) (by simp [Act.eval, Act.put]) w.heap.size (2 * k) (rowL s k) 5 (hG.out _) [.int .u8 ((hd (s[k].toNat / 16)).toNat : Int), .int .u8 ((hd (s[k].toNat % 16)).toNat : Int)] (two_min c6) (fun _ => ⟨rfl, _, rfl, cells2 w1 _ _ 31⟩) hL (one2 _ _) w.heap.size w (hB.out _) (Nat.le_refl _) ?_; intro w2 hg2 hb2)
      have R1 : Hid (w2.heap[w.heap.size]? = some (.cells (rowL s (k + 1)).toArray 5 (0, 0))) := by rw [← rowL_next s k hlt]; exact hg2
      have r3 : w.heap.size < w2.heap.size := (Array.getElem?_eq_some_iff.1 R1.out).1
      clear hG hB hg2 hL c0 c1 c2 c3 c4 c5 c6 hsz hz
      go_wp2
      go_roundw
      case rel => exact ⟨k + 1, by omega, by go_num, R1, hb2, r3⟩
      case measure => simp [intOf]; omega
    · obtain rfl : k = s.size := by omega
      have e : (rowL s s.size) = (hexL s.data.toList).map byteV := by
        unfold rowL
        rw [List.take_of_length_le (by simp)]
        simp
      have hlen : (hexL s.data.toList).length = 2 * s.size := by rw [hexL_len, Array.length_toList]; rfl
      have hconv : (convert 24 9 (.slice (some ⟨w.heap.size, 0, none⟩) (2 * s.size) (2 * s.size))).run Tryd.prog wr = .ok (.string ⟨(hexL s.data.toList).toArray⟩) wr := by
        have hr := hrow.out
        rw [e] at hr
        rw [← hlen]
        refine run_convert_bytes_back wr 24 9 5 _ _ _ Tryd.underlying24 Tryd.underlying5 Tryd.underlying9 ?_
        intro j hj
        simp only [Addr.add_lit, Nat.zero_add]
        rw [cell_of_row wr w.heap.size j _ 5 (0, 0) hr]
        simp [byteV, hj]
      clear e hlen hrow
      go_wp2
      go_ret
      exact ⟨rfl, hbel⟩
end Go.Proofs.YtaepdmeghfbngaaDoor.fnExactHex
