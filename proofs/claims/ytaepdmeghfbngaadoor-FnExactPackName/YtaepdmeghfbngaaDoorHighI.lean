/-
  What impl.appendHighFirst and impl.padding answer and leave. Conditions: a row of bytes of our own, at most 992; one to eight bytes of a number of int64; a size of 0 to 2^40.
-/
import Derived.Test.YtaepdmeghfbngaaDoorEndP
namespace Go.Proofs.YtaepdmeghfbngaaDoor.shaI
open Go.RowKit Go.Joins
open Go.Proofs.YtaepdmeghfbngaaDoor.base Go.Proofs.YtaepdmeghfbngaaDoor.word Go.Proofs.YtaepdmeghfbngaaDoor.ints Go.Proofs.YtaepdmeghfbngaaDoor.blk
open Go.Proofs.YtaepdmeghfbngaaDoor.sha (by8 by8_val appSem app_fold appB gap pad pad_len lenB lenB_len tail gap_lt infoB)
set_option linter.unusedVariables false
attribute [local go_sem ↓] app_fold

/-- the first k of so many bytes of a number, the highest first -/
def highL (x : Int) (size k : Nat) : List UInt8 := (List.range k).map fun q => by8 x (2 ^ (8 * (size - 1 - q)))
theorem highL_next (x : Int) (size k : Nat) : highL x size k ++ [by8 x (2 ^ (8 * (size - 1 - k)))] = highL x size (k + 1) := by unfold highL; rw [List.range_succ, List.map_append]; rfl
theorem highL_len (x : Int) (size k : Nat) : (highL x size k).length = k := by simp [highL]
theorem high8 (size : Int) : highL (8 * size) 8 8 = lenB size 8 := by
  unfold highL lenB
  apply List.map_congr_left
  intro q hq
  rw [List.mem_range] at hq
  rw [show 8 * (8 - 1 - q) = 56 - 8 * q by omega]

/-- bytes that are gathered -/
structure Hi (base : Nat) (w : World) (va : Option Addr) (n vc : Nat) (acc : List UInt8) (wr : World) : Prop where
  own : wr.ownsRow base 5 1 (.slice va n vc) n (acc.map byteV)
  len : acc.length = n
  below : Below base w wr
  hb : base ≤ w.heap.size
theorem Hi.app {base : Nat} {w wr : World} {va : Option Addr} {n vc : Nat} {acc : List UInt8} (h : Hi base w va n vc acc wr) (b : UInt8) (hl : n + 1 ≤ 1000) :
    ∃ g c w2, (appSem #[24, 24] 24 #[.slice va n vc, .slice (some ⟨wr.heap.size, 0, none⟩) 1 1]).run Tryd.prog (wr.alloc (.cells #[byteV b] 5)) = .ok (.slice (some ⟨g, 0, none⟩) (n + 1) c) w2 ∧ Hi base w (some ⟨g, 0, none⟩) (n + 1) c (acc ++ [b]) w2 := by
  have hb := h.hb
  have hs := h.below.size
  obtain ⟨g, c, w2, hrun, hown, hgr⟩ := appB (wr.alloc (.cells #[byteV b] 5)) _ (.inl rfl) base wr.heap.size (.slice va n vc) n 1 acc [b] h.len rfl (by omega) (h.own.alloc _) (by simp; omega) (heap_alloc_new wr _) hl
  refine ⟨g, c, w2, hrun, ⟨hown, by rw [List.length_append, h.len]; rfl, ?_, hb⟩⟩
  exact (h.below.alloc (by omega) _).grown hgr (by simp; omega) (fun k hk => (h.own.lt k hk).1)

set_option maxRecDepth 100000 in
set_option maxHeartbeats 1000000 in
theorem high_any (base : Nat) (va : Option Addr) (n vc : Nat) (acc : List UInt8) (x : Int) (size : Nat) (w : World) (hs : size ≤ 8) (hl : n + 8 ≤ 1000) (h : Hi base w va n vc acc w) :
    Calls Tryd.prog 22 #[.slice va n vc, .int .i64 x, .int .i64 size] w fun e w' => ∃ va' vc', e = .returned (.slice va' (n + size) vc') ∧ Hi base w va' (n + size) vc' (acc ++ highL x size size) w' := by
  have H0 := mkHid h
  clear h
  have hsi : (size : Int) ≤ 8 := by omega
  have hli : (n : Int) + 8 ≤ 1000 := by omega
  go_enter Tryd.func22, Tryd.ntmps22
  go_wp2
  go_loopw [0, 9] (fun v i wr => ∃ (k m : Nat) (a : Option Addr) (c : Nat), k ≤ size ∧ i = .int .i64 k ∧ v = .slice a m c ∧ Hid (m = n + k) ∧ Hid (Hi base w a m c (acc ++ highL x size k) wr))
    (fun _ i _ => size - (intOf i).toNat)
  case atStart => exact ⟨0, n, va, vc, Nat.zero_le _, rfl, rfl, mkHid rfl, mkHid (by have h := H0.out; simpa [highL] using h)⟩
  case round =>
    clear H0
    obtain ⟨k, m, a, c, hk, rfl, rfl, hm, hH⟩ := hrel
    by_cases hlt : k < size
    · obtain ⟨q, hq⟩ : ∃ q : Nat, q = 8 * (size - 1 - k) := ⟨_, rfl⟩
      obtain ⟨g, c', w2, hrun0, hen2⟩ := hH.out.app (by8 x (2 ^ q)) (by have := hm.out; omega)
      have hrun : (appSem #[24, 24] 24 #[.slice a m c, .slice (some ⟨wr.heap.size, 0, none⟩) 1 1]).run Tryd.prog (wr.alloc (.cells #[.int .u8 (x / 2 ^ q % 256)] 5)) = .ok (.slice (some ⟨g, 0, none⟩) (m + 1) c') w2 := by rw [← by8_val]; exact hrun0
      rw [hq, List.append_assoc, highL_next] at hen2
      have E2 := mkHid hen2
      have hqi : 8 * ((size : Int) - 1 - (k : Int)) = (q : Int) := by omega
      have hqt : (8 * ((size : Int) - 1 - (k : Int))).toNat = q := by omega
      have q0 : (q : Int) ≤ 56 := by omega
      have hki : (k : Int) < (size : Int) := by omega
      clear hH hen2 hrun0 hq
      go_wp2
      go_roundw
      case rel => exact ⟨k + 1, m + 1, _, _, by omega, by go_num, rfl, mkHid (by have := hm.out; omega), E2⟩
      case measure => simp [intOf]; omega
    · obtain rfl : k = size := by omega
      obtain rfl : m = n + k := hm.out
      go_wp2
      go_ret
      exact ⟨a, c, rfl, hH.out⟩

theorem Hi.str {base : Nat} {w wr : World} {va : Option Addr} {n vc : Nat} {acc : List UInt8} (h : Hi base w va n vc acc wr) : (convert 24 9 (.slice va n vc)).run Tryd.prog wr = .ok (.string ⟨acc.toArray⟩) wr := by
  obtain ⟨a, m, c, hv, hr⟩ := owns_string_any Tryd.underlying24 Tryd.underlying5 Tryd.underlying9 (by rw [h.len]; exact h.own)
  rw [hv]
  exact hr

/-- bytes 0 -/
def zr (m : Nat) : Array Value := ((List.replicate m (0 : UInt8)).map byteV).toArray
theorem zr_made (m : Nat) : madeCells #[.int .u8 0] m = zr m := by
  apply Array.ext
  · simp [madeCells, zr]
  · intro i h1 h2
    simp [madeCells, zr, byteV, Nat.mod_one]
theorem run_make_bytes (j : Nat) (hj : j ≤ 64) (u : World) : (Instr.makeSlice 24 (.int .i64 (1 + (j : Int))) (.int .i64 (1 + (j : Int)))).run Tryd.prog u =
    .ok (.slice (some ⟨u.heap.size, 0, none⟩) (j + 1) (j + 1)) (u.alloc (.cells (zr (j + 1)) 5)) := by
  obtain ⟨i0, hi, hz0, hz1, hz2⟩ := info_parts infoB
  have h := run_make (P := Tryd.prog) u 24 5 i0 (.int .u8 0) Tryd.underlying24 hi hz0 .i64 .i64 (1 + (j : Int)) (1 + (j : Int)) (by omega) (Int.le_refl _) (by rw [hz2]; omega) (by omega)
  have e : (1 + (j : Int)).toNat = j + 1 := by omega
  rw [e] at h
  rw [← zr_made]
  simpa [hz1, Value.cells] using h
theorem pad_row (j : Nat) : (zr (j + 1)).setIfInBounds 0 (.int .u8 128) = ((pad j).map byteV).toArray := by
  unfold zr pad
  simp [List.replicate_succ]
  rfl
theorem hi_pad {w : World} (j : Nat) (hj : j ≤ 64) : Hi w.heap.size (w.alloc (.cells ((pad j).map byteV).toArray 5)) (some ⟨w.heap.size, 0, none⟩) (j + 1) (j + 1) (pad j) (w.alloc (.cells ((pad j).map byteV).toArray 5)) := by
  have hb := blk_new w (.cells ((pad j).map byteV).toArray 5) _ rfl
  refine ⟨⟨by simp [pad_len], .inr ⟨w.heap.size, j + 1, _, rfl, Nat.le_refl _, hb, Nat.le_refl _, by unfold maxLen; omega, by simp [pad_len], by rw [List.take_of_length_le (by simp [pad_len])]⟩⟩, pad_len j, Below.refl _ _, by simp⟩

set_option maxRecDepth 100000 in
set_option maxHeartbeats 1000000 in
theorem padding_any (size : Int) (w : World) (h0 : 0 ≤ size) (h1 : size ≤ 1099511627776) :
    Calls Tryd.prog 21 #[.int .i64 size] w fun e w' => e = .returned (.string ⟨(tail size).toArray⟩) ∧ Below w.heap.size w w' := by
  obtain ⟨j, hj⟩ : ∃ j, j = gap size := ⟨_, rfl⟩
  have hjl : j ≤ 64 := by rw [hj]; have := gap_lt size; omega
  have hz : 63 - (size + 8) % 64 = (j : Int) := by rw [hj]; unfold gap; omega
  have hmk := run_make_bytes j hjl
  have hc : (w.alloc (.cells (zr (j + 1)) 5)).cell? ⟨w.heap.size, 0, none⟩ = some (.int .u8 0) := by
    rw [cell_of_block (blk_new w _ _ rfl)]
    simp [zr, byteV]
  have hf : (w.alloc (.cells (zr (j + 1)) 5)).frozen? ⟨w.heap.size, 0, none⟩ = false := unfrozen_of_block (blk_new w _ _ rfl) 0
  have hH : Hid (Hi w.heap.size (w.alloc (.cells ((pad j).map byteV).toArray 5)) (some ⟨w.heap.size, 0, none⟩) (j + 1) (j + 1) (pad j) (w.alloc (.cells ((pad j).map byteV).toArray 5))) := mkHid (hi_pad j hjl)
  have HK : Hid (Calls Tryd.prog 22 #[.slice (some ⟨w.heap.size, 0, none⟩) (j + 1) (j + 1), .int .i64 (8 * size), .int .i64 8] (w.alloc (.cells ((pad j).map byteV).toArray 5)) fun e w' => ∃ va' vc', e = .returned (.slice va' (j + 1 + 8) vc') ∧ Hi w.heap.size (w.alloc (.cells ((pad j).map byteV).toArray 5)) va' (j + 1 + 8) vc' (pad j ++ highL (8 * size) 8 8) w') :=
    mkHid (high_any w.heap.size (some ⟨w.heap.size, 0, none⟩) (j + 1) (j + 1) (pad j) (8 * size) 8 _ (by omega) (by omega) hH.out)
  have HJ := mkHid hj
  have hji : (j : Int) ≤ 64 := by omega
  clear hj
  go_enter Tryd.func21, Tryd.ntmps21
  go_wp2_with fail
  rw [pad_row]
  refine HK.out.mono ?_
  rintro e w1 ⟨va, vc, rfl, hE⟩
  have hconv := hE.str
  have e : pad j ++ highL (8 * size) 8 8 = tail size := by rw [high8, HJ.out]; rfl
  rw [e] at hconv
  have B := mkHid (hE.below)
  clear hE e
  go_wp2
  go_ret
  exact ⟨rfl, ((Below.refl _ _).alloc (Nat.le_refl _) _).trans B.out⟩
end Go.Proofs.YtaepdmeghfbngaaDoor.shaI
