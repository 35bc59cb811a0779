/-
  The bytes behind a text and the digest, plain; append of bytes. No condition.
-/
import Derived.Test.YtaepdmeghfbngaaDoorMoreS
namespace Go.Proofs.YtaepdmeghfbngaaDoor.sha
open Go.RowKit Go.Joins
open Go.Proofs.YtaepdmeghfbngaaDoor.base Go.Proofs.YtaepdmeghfbngaaDoor.word Go.Proofs.YtaepdmeghfbngaaDoor.ints Go.Proofs.YtaepdmeghfbngaaDoor.blk
set_option linter.unusedVariables false
attribute [local go_sem ↓] app_fold

/-- byte d of a number, from the lowest -/
def by8 (n d : Int) : UInt8 := UInt8.ofNat ((n / d) % 256).toNat
theorem by8_val (n d : Int) : ((by8 n d).toNat : Int) = n / d % 256 := by
  unfold by8
  rw [UInt8.toNat_ofNat']
  have h1 : 0 ≤ n / d % 256 := by omega
  have h2 : n / d % 256 < 256 := by omega
  omega
/-- how many bytes 0 -/
def gap (size : Int) : Nat := ((119 - size % 64) % 64).toNat
def pad (j : Nat) : List UInt8 := 128 :: List.replicate j 0
/-- the first i bytes of the length in bits -/
def lenB (size : Int) (i : Nat) : List UInt8 := (List.range i).map fun q => by8 (8 * size) (2 ^ (56 - 8 * q))
/-- what is put behind a text of that size -/
def tail (size : Int) : List UInt8 := pad (gap size) ++ lenB size 8
/-- the first i numbers of a state in bytes -/
def digL (f : Nat → Int) (i : Nat) : List UInt8 := (List.range i).flatMap fun q => [by8 (f q) 16777216, by8 (f q) 65536, by8 (f q) 256, by8 (f q) 1]
/-- the digest of a Hash -/
def dig (z : Nat → Int) (r : ByteArray) (size : Int) : ByteArray :=
  ⟨(digL (after z (r ++ ⟨(tail size).toArray⟩) ((r ++ (⟨(tail size).toArray⟩ : ByteArray)).size / 64)) 8).toArray⟩

theorem pad_len (j : Nat) : (pad j).length = j + 1 := by simp [pad]
theorem pad_next (j : Nat) : pad j ++ [0] = pad (j + 1) := by unfold pad; rw [List.replicate_succ', List.cons_append]
theorem lenB_len (size : Int) (i : Nat) : (lenB size i).length = i := by simp [lenB]
theorem lenB_next (size : Int) (i : Nat) : lenB size i ++ [by8 (8 * size) (2 ^ (56 - 8 * i))] = lenB size (i + 1) := by unfold lenB; rw [List.range_succ, List.map_append]; rfl
theorem digL_next (f : Nat → Int) (i : Nat) : digL f i ++ [by8 (f i) 16777216, by8 (f i) 65536, by8 (f i) 256, by8 (f i) 1] = digL f (i + 1) := by unfold digL; rw [List.range_succ, List.flatMap_append]; simp
theorem digL_len (f : Nat → Int) (i : Nat) : (digL f i).length = 4 * i := by
  induction i with
  | zero => rfl
  | succ i ih => rw [← digL_next, List.length_append, ih]; simp; omega
theorem gap_lt (size : Int) : gap size < 64 := by unfold gap; omega
theorem gap_not {size : Int} {j : Nat} (h0 : 0 ≤ size) (h : j < gap size) : ¬ (size + ((j : Int) + 1)) % 64 = 56 := by unfold gap at h; omega
theorem gap_yes {size : Int} (h0 : 0 ≤ size) : (size + ((gap size : Int) + 1)) % 64 = 56 := by unfold gap; omega
theorem tail_len (size : Int) : (tail size).length = gap size + 9 := by unfold tail; rw [List.length_append, pad_len, lenB_len]

theorem infoB : (Tryd.prog.info? 5).map (fun i => (i.zero, i.size, i.bytes)) = some (some (.int .u8 0), 1, 1) := by kernel_rfl

/-- append of bytes in a block of their own to a row of our own -/
theorem appB (W W' : World) (hW : W' = W ∨ W' = W.drew) (base q : Nat) (v : Value) (n m : Nat) (acc bs : List UInt8) (hn : acc.length = n) (hm : bs.length = m) (hm0 : 0 < n + m) (hown : W.ownsRow base 5 1 v n (acc.map byteV)) (hb : base ≤ W.heap.size)
    (hq : W.heap[q]? = some (.cells (bs.map byteV).toArray 5 (0, 0))) (hl : n + m ≤ 1000) :
    ∃ g c w2, (appSem #[24, 24] 24 #[v, .slice (some ⟨q, 0, none⟩) m m]).run Tryd.prog W' = .ok (.slice (some ⟨g, 0, none⟩) (n + m) c) w2 ∧ w2.ownsRow base 5 1 (.slice (some ⟨g, 0, none⟩) (n + m) c) (n + m) ((acc ++ bs).map byteV) ∧ W.grownBy w2 v.ownBlock := by
  subst hn hm
  obtain ⟨i0, hi, hz0, hz1, hz2⟩ := info_parts infoB
  have hown' : W'.ownsRow base 5 1 v acc.length (acc.map byteV) := by rcases hW with rfl | rfl <;> exact hown
  have hc : ∀ j u, (bs.map byteV)[j]? = some u → W'.cell? ((⟨q, 0, none⟩ : Addr).add j) = some u := by
    intro j u hj
    rw [Addr.add_lit, Nat.zero_add]
    have h : W.cell? ⟨q, j, none⟩ = some u := by rw [cell_of_block hq]; simpa using hj
    rcases hW with rfl | rfl <;> exact h
  obtain ⟨v', w2, happ0, hown2, hgrow, _⟩ := run_append_own (P := Tryd.prog) W' base 24 24 5 i0 (.int .u8 0) 1 1 Tryd.underlying24 hi hz0 hz1 hz2 rfl (by decide) v acc.length (acc.map byteV) hown' ⟨q, 0, none⟩ bs.length bs.length (bs.map byteV) (by simp) hc (by intro u hu; rw [List.mem_map] at hu; obtain ⟨j, _, rfl⟩ := hu; rfl) (by unfold maxLen; omega) (by omega) (by rcases hW with rfl | rfl <;> exact hb)
  obtain ⟨g, c, rfl⟩ := ownsRow_form hown2 (by omega)
  refine ⟨g, c, w2, happ0, by rw [List.map_append]; exact hown2, ?_⟩
  rcases hW with rfl | rfl
  · exact hgrow
  · exact ⟨hgrow.os, hgrow.tape, hgrow.output, hgrow.size, hgrow.block⟩

end Go.Proofs.YtaepdmeghfbngaaDoor.sha
