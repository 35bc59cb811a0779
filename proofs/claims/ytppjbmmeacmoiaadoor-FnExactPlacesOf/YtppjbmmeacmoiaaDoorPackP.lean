/-
  Packs in plain words: blobs, their keys, records and packs; what reading, scanning and getting tell. No condition.
-/
import Derived.Test.YtppjbmmeacmoiaaDoorDigS
import Derived.Test.YtppjbmmeacmoiaaDoorPutText
import Derived.Test.YtppjbmmeacmoiaaDoorGetP
namespace Go.Proofs.YtppjbmmeacmoiaaDoor.pack
open Go.RowKit
open Go.Proofs.YtppjbmmeacmoiaaDoor.base
open Go.Proofs.YtppjbmmeacmoiaaDoor.sha (digest)
set_option linter.unusedVariables false

/-- a blob: its kind and its text -/
def blobV (b : Int × ByteArray) : Value := .agg #[.int .i64 b.1, .string b.2]
def bRight (b : Int × ByteArray) : Bool := decide ((b.1 = 1 ∨ b.1 = 2) ∧ b.2.size ≤ 2000)
/-- the bytes of a number that is not below 0 -/
def numB (k : Int) : ByteArray := ⟨(num (2 * k.toNat)).toArray⟩
def bKey (b : Int × ByteArray) : ByteArray := if bRight b = true then digest (numB b.1 ++ b.2) else ⟨#[]⟩
def recd (b : Int × ByteArray) : ByteArray := ⟨#[66]⟩ ++ bKey b ++ numB b.1 ++ (fnExactPutText.pre b.2.size ++ b.2)
def recL (b : Int × ByteArray) : List UInt8 := (recd b).data.toList
/-- the records, one behind the other -/
def recsL (l : List (Int × ByteArray)) : List UInt8 := l.flatMap recL
def packR (l : List (Int × ByteArray)) : Bool := decide (1 ≤ l.length ∧ l.length ≤ 40 ∧ (∀ b ∈ l, bRight b = true) ∧ (l.map bKey).Nodup ∧ (recsL l).length ≤ 12000)
def packB (l : List (Int × ByteArray)) : ByteArray := if packR l = true then ⟨(recsL l).toArray⟩ else ⟨#[]⟩

theorem bRight_parts {b : Int × ByteArray} (h : bRight b = true) : (b.1 = 1 ∨ b.1 = 2) ∧ b.2.size ≤ 2000 := by
  simpa [bRight] using h
theorem bRight_no {b : Int × ByteArray} (h : bRight b = false) : bKey b = ⟨#[]⟩ := by
  unfold bKey
  rw [h]
  rfl
theorem numB_one : numB 1 = ⟨#[2]⟩ := by
  show (⟨(num 2).toArray⟩ : ByteArray) = _
  rw [num_small (by omega)]
  rfl
theorem numB_two : numB 2 = ⟨#[4]⟩ := by
  show (⟨(num 4).toArray⟩ : ByteArray) = _
  rw [num_small (by omega)]
  rfl
theorem numB_size {b : Int × ByteArray} (h : bRight b = true) : (numB b.1).size = 1 := by
  rcases (bRight_parts h).1 with e | e
  · rw [e, numB_one]; rfl
  · rw [e, numB_two]; rfl
theorem bKey_size {b : Int × ByteArray} (h : bRight b = true) : (bKey b).size = 32 := by
  have h2 := (bRight_parts h).2
  have h3 := numB_size h
  unfold bKey
  rw [if_pos h]
  unfold sha.digest
  rw [if_neg (by simp [ByteArray.size_append]; omega)]
  exact sha.dig_size _ _ _
theorem pre_small {n : Nat} (h : n ≤ 2000) : (fnExactPutText.pre n).size ≤ 2 ∧ 1 ≤ (fnExactPutText.pre n).size := by
  unfold fnExactPutText.pre
  show (num (2 * n)).toArray.size ≤ 2 ∧ 1 ≤ (num (2 * n)).toArray.size
  rw [List.size_toArray]
  by_cases h1 : 2 * n < 128
  · rw [num_small h1]; simp
  · rw [num_big (by omega), num_small (by omega)]; simp
theorem recd_size {b : Int × ByteArray} (h : bRight b = true) : (recd b).size = 34 + (fnExactPutText.pre b.2.size).size + b.2.size := by
  unfold recd
  simp only [ByteArray.size_append]
  rw [bKey_size h, numB_size h]
  show 1 + 32 + 1 + _ = _
  omega
theorem recL_len (b : Int × ByteArray) : (recL b).length = (recd b).size := by
  unfold recL
  rw [Array.length_toList]
  rfl
theorem recd_bd {b : Int × ByteArray} (h : bRight b = true) : (recd b).size ≤ 2036 ∧ 35 ≤ (recd b).size := by
  have h1 := recd_size h
  have h2 := (bRight_parts h).2
  have h3 := pre_small h2
  omega
theorem recsL_snoc (l : List (Int × ByteArray)) (b : Int × ByteArray) : recsL (l ++ [b]) = recsL l ++ recL b := by simp [recsL]
theorem recsL_len : ∀ (l : List (Int × ByteArray)), (∀ b ∈ l, bRight b = true) → (recsL l).length ≤ 2036 * l.length ∧ 35 * l.length ≤ (recsL l).length
  | [], _ => by simp [recsL]
  | b :: r, h => by
    have h1 := recsL_len r (fun x hx => h x (List.mem_cons_of_mem _ hx))
    have h2 := recd_bd (h b (List.mem_cons_self ..))
    have h3 := recL_len b
    have e : recsL (b :: r) = recL b ++ recsL r := by simp [recsL]
    rw [e, List.length_append, List.length_cons]
    omega
theorem packB_empty (l : List (Int × ByteArray)) : (packB l = ⟨#[]⟩) ↔ packR l = false := by
  unfold packB
  cases h : packR l
  · simp
  · simp only [if_true]
    constructor
    · intro e
      simp only [packR, decide_eq_true_eq] at h
      have h1 := (recsL_len l h.2.2.1).2
      have h2 : (recsL l).length = 0 := by
        have := congrArg ByteArray.size e
        change (recsL l).toArray.size = 0 at this
        simpa using this
      omega
    · intro e
      cases e
theorem packB_size (l : List (Int × ByteArray)) : (packB l).size ≤ 12000 := by
  unfold packB
  split
  · rename_i h
    simp only [packR, decide_eq_true_eq] at h
    have := h.2.2.2.2
    show (recsL l).toArray.size ≤ 12000
    rw [List.size_toArray]
    exact this
  · exact Nat.zero_le _

/-- the record at a place: kind, the place of its text, the text's length -/
def recAt (s : ByteArray) (a : Nat) : Option (Int × Nat × Nat) :=
  if s.size < a + 33 then none else if s.data.toList[a]? ≠ some 66 then none else
  match num.G s (a + 33 : Nat) with
  | .error _ => none
  | .ok (k, p) => if ¬ (k = 1 ∨ k = 2) then none else
    match num.G s p with
    | .error _ => none
    | .ok (n, q) => if n < 0 ∨ 2000 < n ∨ (s.size : Int) - n < q then none else
      if bKey (k, s.extract q.toNat (q + n).toNat) = s.extract (a + 1) (a + 33) then some (k, q.toNat, n.toNat) else none
end Go.Proofs.YtppjbmmeacmoiaaDoor.pack
