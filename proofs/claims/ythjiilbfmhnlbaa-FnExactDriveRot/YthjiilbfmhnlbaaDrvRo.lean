/-
  A byte of a text that is turned: spec.l02Byte, impl.isByte and impl.rotten. Condition: a text of at most 1,048,576 bytes that has the place.
-/
import Derived.Test.YthjiilbfmhnlbaaDrvCs
import Derived.Lib.ConvBytes
namespace Go.Proofs.Ythjiilbfmhnlbaa.drv
open Go.RowKit Go.Joins Go.Sort
open Go.Proofs.Ythjiilbfmhnlbaa.base Go.Proofs.Ythjiilbfmhnlbaa.blk Go.Proofs.Ythjiilbfmhnlbaa.aid
open Go.Proofs.Ythjiilbfmhnlbaa.row (Rd Own OwnV)
open Go.Proofs.Ythjiilbfmhnlbaa.rwStored (cs)
set_option linter.unusedVariables false

/-- a number is a byte -/
def byteB (t : Int) : Bool := decide (0 ≤ t) && decide (t ≤ 255)
theorem byteS_any (t : Int) (w : World) : Calls Try.prog 72 #[.int .i64 t] w fun e w' => e = .returned (.bool (byteB t)) ∧ w' = w := by
  unfold byteB
  by_cases h1 : 0 ≤ t
  · by_cases h2 : t ≤ 255
    · go_enter Try.func72, Try.ntmps72
      go_wp2
      go_ret
      exact ⟨ret_eq (by simp [h1, h2]), rfl⟩
    · go_enter Try.func72, Try.ntmps72
      go_wp2
      go_ret
      exact ⟨ret_eq (by simp; omega), rfl⟩
  · go_enter Try.func72, Try.ntmps72
    go_wp2
    go_ret
    exact ⟨ret_eq (by simp; omega), rfl⟩
theorem byteI_any (t : Int) (w : World) : Calls Try.prog 73 #[.int .i64 t] w fun e w' => e = .returned (.bool (byteB t)) ∧ w' = w := by
  by_cases h1 : 0 ≤ t
  · by_cases h2 : t ≤ 255
    · have h3 : t < 256 := by omega
      have E : Hid (byteB t = true) := mkHid (by unfold byteB; simp [h1, h2])
      go_enter Try.func73, Try.ntmps73
      go_wp2
      go_ret
      exact ⟨ret_eq (by rw [E.out]; rfl), rfl⟩
    · have h3 : ¬ t < 256 := by omega
      have E : Hid (byteB t = false) := mkHid (by unfold byteB; simp; omega)
      go_enter Try.func73, Try.ntmps73
      go_wp2
      go_ret
      exact ⟨ret_eq (by rw [E.out]; rfl), rfl⟩
  · have E : Hid (byteB t = false) := mkHid (by unfold byteB; simp; omega)
    go_enter Try.func73, Try.ntmps73
    go_wp2
    go_ret
    exact ⟨ret_eq (by rw [E.out]; rfl), rfl⟩
theorem byte_of {t : Int} (h : byteB t = true) : ∃ b : UInt8, t = (b.toNat : Int) := by
  unfold byteB at h
  simp at h
  exact ⟨UInt8.ofNat t.toNat, by rw [toNat_ofNat (by omega)]; omega⟩
/-- one byte is turned -/
def rotT (s : ByteArray) (p : Nat) (b : UInt8) : ByteArray := ⟨(s.data.toList.set p (s.data.toList.getD p 0 ^^^ b)).toArray⟩
theorem rotT_size (s : ByteArray) (p : Nat) (b : UInt8) : (rotT s p b).size = s.size := by
  show (s.data.toList.set p _).toArray.size = s.data.size
  simp
/-- the bytes of a text in a row of their own; one is turned; a text is made of them -/
theorem bytes_row (s : ByteArray) (p : Nat) (b : UInt8) (w : World) (hp : p < s.size) :
    ∃ (G : Nat) (V : World), (convert 9 22 (.string s)).run Try.prog w = .ok (.slice (some ⟨w.heap.size, 0, none⟩) s.size G) V ∧ V.cell? ⟨w.heap.size, p, none⟩ = some (.int .u8 ((s.data.toList.getD p 0).toNat : Int)) ∧ V.frozen? ⟨w.heap.size, p, none⟩ = false ∧ Below w.heap.size w V ∧
      ∀ wx : World, (∀ j : Nat, wx.heap[j]? = (V.setCell ⟨w.heap.size, p, none⟩ (.int .u8 (((s.data.toList.getD p 0) ^^^ b).toNat : Int))).heap[j]?) → (convert 22 9 (.slice (some ⟨w.heap.size, 0, none⟩) s.size G)).run Try.prog wx = .ok (.string (rotT s p b)) wx := by
  have hcv := Lib.run_convert_string_bytes (P := Try.prog) w 9 22 5 s Try.underlying9 Try.underlying22 Try.underlying5
  have hnew := Lib.bytesWorld_at_new w 5 s
  refine ⟨_, _, hcv, Lib.bytesWorld_cell w _ s p hp, ?_, ?_, ?_⟩
  · have hsz : p < (Lib.bytesCells w 5 s).size := by
      unfold Lib.bytesCells
      rw [Array.size_append, Array.size_map]
      have : s.data.size = s.size := rfl
      omega
    simp [World.frozen?, hnew]
    omega
  · exact ⟨rfl, rfl, rfl, by rw [Lib.bytesWorld_size]; omega, fun k hk => Lib.bytesWorld_at_old w _ s k hk⟩
  · intro wx hwx
    have hl : (s.data.toList.set p (s.data.toList.getD p 0 ^^^ b)).length = s.size := by rw [List.length_set, Array.length_toList]; rfl
    have h := run_convert_bytes_back (P := Try.prog) wx 22 9 5 ⟨w.heap.size, 0, none⟩ (grownCap w s.size 0 5) (s.data.toList.set p (s.data.toList.getD p 0 ^^^ b)) Try.underlying22 Try.underlying5 Try.underlying9 (fun j hj => by
      rw [Addr.add_lit, Nat.zero_add, World.cell?_of_block (w := (Lib.bytesWorld w 5 s).setCell ⟨w.heap.size, p, none⟩ (.int .u8 (((s.data.toList.getD p 0) ^^^ b).toNat : Int))) (hwx _)]
      have hjs : j < s.size := by omega
      by_cases hjp : j = p
      · subst hjp
        rw [World.cell?_setCell_same _ _ _ (by rw [Lib.bytesWorld_cell w _ s j hp])]
        simp
      · rw [World.cell?_setCell_other _ _ _ _ (by simp)]
        rw [Lib.bytesWorld_cell w _ s j hjs, List.getElem_set_ne (fun e => hjp e.symm)]
        rw [List.getD_eq_getElem?_getD, List.getElem?_eq_getElem (by rw [Array.length_toList]; exact hjs)]
        rfl)
    rw [hl] at h
    exact h

theorem xor_u8 (a b : UInt8) : bits .xor .u8 (a.toNat : Int) (b.toNat : Int) = ((a ^^^ b).toNat : Int) := by
  rw [u8_xor_nat _ _ (by have := a.toNat_lt; omega) (by have := b.toNat_lt; omega), UInt8.toNat_xor]
set_option maxRecDepth 100000 in
theorem rotten_any (s : ByteArray) (p : Nat) (b : UInt8) (w : World) (hp : p < s.size) (hs : s.size ≤ 1048576) :
    Calls Try.prog 74 #[.string s, .int .i64 (p : Int), .int .u8 (b.toNat : Int)] w fun e w' => e = .returned (.string (rotT s p b)) ∧ Below w.heap.size w w' := by
  obtain ⟨G, V, hcv, hc, hfz, hB, hback⟩ := bytes_row s p b w hp
  have hpi : (p : Int) < (s.size : Int) := by omega
  have hsi : (s.size : Int) ≤ 1048576 := by omega
  generalize rotT s p b = o at *
  generalize s.data.toList.getD p 0 = x at *
  have hbk := hback (V.setCell ⟨w.heap.size, p, none⟩ (.int .u8 ((x ^^^ b).toNat : Int))) (fun j => rfl)
  have HB := mkHid (below_cell (i := p) hB (g := w.heap.size) (Nat.le_refl _) hB.size (.int .u8 ((x ^^^ b).toNat : Int)))
  have hx255 : (x.toNat : Int) ≤ 255 := by have := x.toNat_lt; omega
  have hb255 : (b.toNat : Int) ≤ 255 := by have := b.toNat_lt; omega
  have hxor := xor_u8 x b
  clear hback hB
  generalize x ^^^ b = y at *
  go_enter Try.func74, Try.ntmps74
  go_wp2
  go_ret
  exact ⟨rfl, HB.out⟩
end Go.Proofs.Ythjiilbfmhnlbaa.drv
