/-
  Frames in plain words: the bytes of a frame; how long they are. No condition.
-/
import Derived.Test.YtjkbldmadcgddaaDoorFrmR
import Derived.Test.YtjkbldmadcgddaaDoorParts
import Derived.Test.YtjkbldmadcgddaaDoorPutNum
namespace Go.Proofs.YtjkbldmadcgddaaDoor.frm
open Go.RowKit Go.Joins
open Go.Proofs.YtjkbldmadcgddaaDoor.base Go.Proofs.YtjkbldmadcgddaaDoor.blk Go.Proofs.YtjkbldmadcgddaaDoor.aid
open Go.Proofs.YtjkbldmadcgddaaDoor.code (codeB shard sizeB)
open Go.Proofs.YtjkbldmadcgddaaDoor.sha (digest dig after rest rest_size rest_app rest_rest after_add after_congr bt_left dig_congr dig_size)
set_option linter.unusedVariables false

/-- the bytes of a number that is not below 0 -/
def numB (k : Int) : ByteArray := ⟨(num (2 * k.toNat)).toArray⟩
theorem num_len : ∀ (n u : Nat), u < 128 ^ (n + 1) → (num u).length ≤ n + 1
  | 0, u, h => by rw [num_small (by omega)]; simp
  | n + 1, u, h => by
    by_cases hu : u < 128
    · rw [num_small hu]; simp
    · rw [num_big (by omega)]
      have h1 : u / 128 < 128 ^ (n + 1) := by
        rw [Nat.div_lt_iff_lt_mul (by omega)]
        rw [Nat.pow_succ] at h
        exact h
      have := num_len n (u / 128) h1
      simp
      omega
theorem num_pos (u : Nat) : 1 ≤ (num u).length := by
  by_cases hu : u < 128
  · rw [num_small hu]; simp
  · rw [num_big (by omega)]; simp
theorem numB_len {k : Int} (h1 : k ≤ 12000) : (numB k).size ≤ 3 := by
  have h2 : 2 * k.toNat < 128 ^ (2 + 1) := by have : (128 : Nat) ^ (2 + 1) = 2097152 := by decide
                                              omega
  have := num_len 2 _ h2
  show (num (2 * k.toNat)).toArray.size ≤ 3
  rw [List.size_toArray]
  omega
/-- what stands ahead of the digest -/
def headB (k m i s : Int) (h : ByteArray) : ByteArray := ⟨#[70]⟩ ++ numB k ++ numB m ++ numB i ++ numB s ++ h
def frameB (k m i s : Int) (h x : ByteArray) : ByteArray := headB k m i s h ++ digest (headB k m i s h ++ x) ++ x
/-- what FrameBytes tells -/
def fbytes (k m i s : Int) (h x : ByteArray) : ByteArray := if frmB k m i s h x = true then frameB k m i s h x else ⟨#[]⟩
theorem shard_le {k n : Int} : shard k n ≤ 20007 := by
  unfold code.shard
  split
  · rename_i h
    exact (code.quot_bd h.1 h.2).2.1
  · omega
theorem shard_small {k n : Int} (hk : 1 ≤ k) (hn0 : 0 ≤ n) (hn : n ≤ 12000) : shard k n ≤ 12007 := by
  unfold code.shard
  split
  · rename_i h
    have hb := code.quot_bd h.1 h.2
    have h1 : 0 ≤ n + k - 1 := by omega
    rw [Int.tdiv_eq_ediv_of_nonneg h1]
    have := Int.ediv_le_self k h1
    omega
  · omega
theorem headB_len {k m i s : Int} {h : ByteArray} (h1 : k ≤ 12000) (h2 : m ≤ 12000) (h3 : i ≤ 12000) (h4 : s ≤ 12000) : (headB k m i s h).size ≤ 13 + h.size := by
  have := numB_len h1
  have := numB_len h2
  have := numB_len h3
  have := numB_len h4
  have s0 : (⟨#[70]⟩ : ByteArray).size = 1 := rfl
  unfold headB
  simp only [ByteArray.size_append]
  omega
theorem digest_len {t : ByteArray} (h : t.size ≤ 20000) : (digest t).size = 32 := by
  unfold sha.digest
  rw [if_neg (by omega), dig_size]
theorem dig_two (a b : ByteArray) (h : a.size + b.size ≤ 20000) : dig (after (after sha.start a (a.size / 64)) (rest a ++ b) ((rest a ++ b).size / 64)) (rest (rest a ++ b)) ((a.size : Int) + (b.size : Int)) = digest (a ++ b) := by
  have hs : (a ++ b).size = a.size + b.size := by simp
  have hr : (rest a ++ b).size = a.size % 64 + b.size := by simp [rest_size]
  have hn : (a ++ b).size / 64 = a.size / 64 + (rest a ++ b).size / 64 := by rw [hs, hr]; omega
  unfold sha.digest
  rw [if_neg (by omega), rest_rest]
  have e : ((a ++ b).size : Int) = (a.size : Int) + (b.size : Int) := by rw [hs]; simp
  rw [e]
  refine dig_congr (fun i hi => ?_) _ _
  rw [hn, after_add sha.start (a ++ b) (a.size / 64) (by omega) _ (by omega) i hi, ← rest_app]
  refine after_congr (fun j hj => ?_) _ _ _ (fun j hj => rfl) (by omega) (by omega) i hi
  exact after_congr (fun k hk => rfl) a (a ++ b) _ (fun k hk => (bt_left a b k (by omega)).symm) (by omega) (by omega) j hj
end Go.Proofs.YtjkbldmadcgddaaDoor.frm
