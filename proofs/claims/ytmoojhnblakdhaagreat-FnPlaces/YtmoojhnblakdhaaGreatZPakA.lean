/-
  Packs in plain words: blobs, their keys, records and packs; what reading, scanning and getting tell. No condition.
  The record at a place, in plain words: when there is none, and when there is one. Condition: a text of at most 20,000 bytes.
  What reading and scanning a text tell, in plain words. No condition.
  Where a pack's pieces lie, in plain words. No condition.
-/
import Derived.Test.YtmoojhnblakdhaaGreatZShaB
import Derived.Test.YtmoojhnblakdhaaGreatZNumA
import Derived.Test.YtmoojhnblakdhaaGreatZPlsA
namespace Go.Proofs.YtmoojhnblakdhaaGreat.pack
open Go.RowKit
open Go.Proofs.YtmoojhnblakdhaaGreat.base
open Go.Proofs.YtmoojhnblakdhaaGreat.sha (digest)
set_option linter.unusedVariables false

/-- a blob: its kind and its text -/
def blobV (b : Int × ByteArray) : Value := .agg #[.int .i64 b.1, .string b.2]
def bRight (b : Int × ByteArray) : Bool := decide ((b.1 = 1 ∨ b.1 = 2) ∧ b.2.size ≤ 2000)
/-- the bytes of a number that is not below 0 -/
def numB (k : Int) : ByteArray := ⟨(num (2 * k.toNat)).toArray⟩
def bKey (b : Int × ByteArray) : ByteArray := if bRight b = true then digest (numB b.1 ++ b.2) else ⟨#[]⟩
def recd (b : Int × ByteArray) : ByteArray := ⟨#[66]⟩ ++ bKey b ++ numB b.1 ++ (fnExactPutText.pre b.2.size ++ b.2)
def recL (b : Int × ByteArray) : List UInt8 := (recd b).data.toList
/-- the records, one behind the other -/
def recsL (l : List (Int × ByteArray)) : List UInt8 := l.flatMap recL
def packR (l : List (Int × ByteArray)) : Bool := decide (1 ≤ l.length ∧ l.length ≤ 40 ∧ (∀ b ∈ l, bRight b = true) ∧ (l.map bKey).Nodup ∧ (recsL l).length ≤ 12000)
def packB (l : List (Int × ByteArray)) : ByteArray := if packR l = true then ⟨(recsL l).toArray⟩ else ⟨#[]⟩

theorem bRight_parts {b : Int × ByteArray} (h : bRight b = true) : (b.1 = 1 ∨ b.1 = 2) ∧ b.2.size ≤ 2000 := by
  simpa [bRight] using h
theorem bRight_no {b : Int × ByteArray} (h : bRight b = false) : bKey b = ⟨#[]⟩ := by
  unfold bKey
  rw [h]
  rfl
theorem numB_one : numB 1 = ⟨#[2]⟩ := by
  show (⟨(num 2).toArray⟩ : ByteArray) = _
  rw [num_small (by omega)]
  rfl
theorem numB_two : numB 2 = ⟨#[4]⟩ := by
  show (⟨(num 4).toArray⟩ : ByteArray) = _
  rw [num_small (by omega)]
  rfl
theorem numB_size {b : Int × ByteArray} (h : bRight b = true) : (numB b.1).size = 1 := by
  rcases (bRight_parts h).1 with e | e
  · rw [e, numB_one]; rfl
  · rw [e, numB_two]; rfl
theorem bKey_size {b : Int × ByteArray} (h : bRight b = true) : (bKey b).size = 32 := by
  have h2 := (bRight_parts h).2
  have h3 := numB_size h
  unfold bKey
  rw [if_pos h]
  unfold sha.digest
  rw [if_neg (by simp [ByteArray.size_append]; omega)]
  exact sha.dig_size _ _ _
theorem pre_small {n : Nat} (h : n ≤ 2000) : (fnExactPutText.pre n).size ≤ 2 ∧ 1 ≤ (fnExactPutText.pre n).size := by
  unfold fnExactPutText.pre
  show (num (2 * n)).toArray.size ≤ 2 ∧ 1 ≤ (num (2 * n)).toArray.size
  rw [List.size_toArray]
  by_cases h1 : 2 * n < 128
  · rw [num_small h1]; simp
  · rw [num_big (by omega), num_small (by omega)]; simp
theorem recd_size {b : Int × ByteArray} (h : bRight b = true) : (recd b).size = 34 + (fnExactPutText.pre b.2.size).size + b.2.size := by
  unfold recd
  simp only [ByteArray.size_append]
  rw [bKey_size h, numB_size h]
  show 1 + 32 + 1 + _ = _
  omega
theorem recL_len (b : Int × ByteArray) : (recL b).length = (recd b).size := by
  unfold recL
  rw [Array.length_toList]
  rfl
theorem recd_bd {b : Int × ByteArray} (h : bRight b = true) : (recd b).size ≤ 2036 ∧ 35 ≤ (recd b).size := by
  have h1 := recd_size h
  have h2 := (bRight_parts h).2
  have h3 := pre_small h2
  omega
theorem recsL_snoc (l : List (Int × ByteArray)) (b : Int × ByteArray) : recsL (l ++ [b]) = recsL l ++ recL b := by simp [recsL]
theorem recsL_len : ∀ (l : List (Int × ByteArray)), (∀ b ∈ l, bRight b = true) → (recsL l).length ≤ 2036 * l.length ∧ 35 * l.length ≤ (recsL l).length
  | [], _ => by simp [recsL]
  | b :: r, h => by
    have h1 := recsL_len r (fun x hx => h x (List.mem_cons_of_mem _ hx))
    have h2 := recd_bd (h b (List.mem_cons_self ..))
    have h3 := recL_len b
    have e : recsL (b :: r) = recL b ++ recsL r := by simp [recsL]
    rw [e, List.length_append, List.length_cons]
    omega
theorem packB_empty (l : List (Int × ByteArray)) : (packB l = ⟨#[]⟩) ↔ packR l = false := by
  unfold packB
  cases h : packR l
  · simp
  · simp only [if_true]
    constructor
    · intro e
      simp only [packR, decide_eq_true_eq] at h
      have h1 := (recsL_len l h.2.2.1).2
      have h2 : (recsL l).length = 0 := by
        have := congrArg ByteArray.size e
        change (recsL l).toArray.size = 0 at this
        simpa using this
      omega
    · intro e
      cases e
theorem packB_size (l : List (Int × ByteArray)) : (packB l).size ≤ 12000 := by
  unfold packB
  split
  · rename_i h
    simp only [packR, decide_eq_true_eq] at h
    have := h.2.2.2.2
    show (recsL l).toArray.size ≤ 12000
    rw [List.size_toArray]
    exact this
  · exact Nat.zero_le _

/-- the record at a place: kind, the place of its text, the text's length -/
def recAt (s : ByteArray) (a : Nat) : Option (Int × Nat × Nat) :=
  if s.size < a + 33 then none else if s.data.toList[a]? ≠ some 66 then none else
  match num.G s (a + 33 : Nat) with
  | .error _ => none
  | .ok (k, p) => if ¬ (k = 1 ∨ k = 2) then none else
    match num.G s p with
    | .error _ => none
    | .ok (n, q) => if n < 0 ∨ 2000 < n ∨ (s.size : Int) - n < q then none else
      if bKey (k, s.extract q.toNat (q + n).toNat) = s.extract (a + 1) (a + 33) then some (k, q.toNat, n.toNat) else none
end Go.Proofs.YtmoojhnblakdhaaGreat.pack
namespace Go.Proofs.YtmoojhnblakdhaaGreat.pack
open Go.RowKit
open Go.Proofs.YtmoojhnblakdhaaGreat.base
open Go.Proofs.YtmoojhnblakdhaaGreat.sha (digest)
set_option linter.unusedVariables false

theorem rd_len : ∀ (l : List UInt8) (j u : Nat) (u' m : Nat), num.rd l j u = .ok (u', m) → j < m ∧ m ≤ j + l.length
  | [], j, u, u', m, h => by simp [num.rd] at h
  | c :: r, j, u, u', m, h => by
    unfold num.rd at h
    split at h
    · simp at h
    · split at h
      · split at h
        · simp at h
        · simp at h
          simp
          omega
      · have := rd_len r (j + 1) _ u' m h
        simp
        omega
theorem G_nat {s : ByteArray} {a : Nat} {n p : Int} (h : num.G s a = .ok (n, p)) : ∃ P : Nat, p = P ∧ a < P ∧ P ≤ s.size := by
  unfold num.G at h
  split at h
  · simp at h
  · split at h
    · simp at h
    · rw [Int.toNat_natCast] at h
      cases hr : num.rd (s.data.toList.drop a) 0 0 with
      | error c => rw [hr] at h; simp at h
      | ok x =>
        obtain ⟨u, k⟩ := x
        rw [hr] at h
        simp at h
        have h1 := rd_len _ _ _ _ _ hr
        have hl : s.data.toList.length = s.size := by rw [Array.length_toList]; rfl
        rw [List.length_drop, hl] at h1
        exact ⟨a + k, by omega, by omega, by omega⟩

/-- the key of a record -/
def keyAt (s : ByteArray) (a : Nat) : ByteArray := s.extract (a + 1) (a + 33)
theorem keyAt_size {s : ByteArray} {a : Nat} (h : a + 33 ≤ s.size) : (keyAt s a).size = 32 := by
  unfold keyAt
  simp
  omega
theorem key_right {s : ByteArray} {a : Nat} {b : Int × ByteArray} (h : a + 33 ≤ s.size) (he : bKey b = keyAt s a) : bRight b = true := by
  cases hr : bRight b
  · have h1 := bRight_no hr
    have h2 := keyAt_size h
    rw [← he, h1] at h2
    have h3 : (⟨#[]⟩ : ByteArray).size = 0 := rfl
    omega
  · rfl
theorem rec_short {s : ByteArray} {a : Nat} (h : s.size < a + 33) : recAt s a = none := by
  unfold recAt
  rw [if_pos h]
theorem rec_mark {s : ByteArray} {a : Nat} (h : s.data.toList[a]? ≠ some 66) : recAt s a = none := by
  unfold recAt
  split
  · rfl
  · first | rfl | rw [if_pos h]
theorem rec_err1 {s : ByteArray} {a : Nat} {c : Int} (h : num.G s (a + 33 : Nat) = .error c) : recAt s a = none := by
  unfold recAt
  split
  · rfl
  · split
    · rfl
    · rw [h]
theorem rec_kind {s : ByteArray} {a : Nat} {k p : Int} (h : num.G s (a + 33 : Nat) = .ok (k, p)) (hk : ¬ (k = 1 ∨ k = 2)) : recAt s a = none := by
  unfold recAt
  split
  · rfl
  · split
    · rfl
    · rw [h]
      simp only
      rw [if_pos hk]
theorem rec_err2 {s : ByteArray} {a : Nat} {k p c : Int} (h : num.G s (a + 33 : Nat) = .ok (k, p)) (h2 : num.G s p = .error c) : recAt s a = none := by
  unfold recAt
  split
  · rfl
  · split
    · rfl
    · rw [h]
      simp only
      split
      · rfl
      · rw [h2]
theorem rec_size {s : ByteArray} {a : Nat} {k p n q : Int} (h : num.G s (a + 33 : Nat) = .ok (k, p)) (h2 : num.G s p = .ok (n, q)) (h3 : n < 0 ∨ 2000 < n ∨ (s.size : Int) - n < q) : recAt s a = none := by
  unfold recAt
  split
  · rfl
  · split
    · rfl
    · rw [h]
      simp only
      split
      · rfl
      · rw [h2]
        simp only
        rw [if_pos h3]
theorem rec_key {s : ByteArray} {a : Nat} {k p : Int} {n q : Nat} (h : num.G s (a + 33 : Nat) = .ok (k, p)) (h2 : num.G s p = .ok ((n : Int), (q : Int))) (h3 : bKey (k, s.extract q (q + n)) ≠ keyAt s a) : recAt s a = none := by
  unfold recAt
  split
  · rfl
  · split
    · rfl
    · rw [h]
      simp only
      split
      · rfl
      · rw [h2]
        simp only
        split
        · rfl
        · rw [if_neg]
          have e1 : ((q : Int)).toNat = q := by omega
          have e2 : ((q : Int) + (n : Int)).toNat = q + n := by omega
          rw [e1, e2]
          exact h3
theorem rec_ok {s : ByteArray} {a : Nat} {k p : Int} {n q : Nat} (h0 : a + 33 ≤ s.size) (h1 : s.data.toList[a]? = some 66) (h : num.G s (a + 33 : Nat) = .ok (k, p)) (h2 : num.G s p = .ok ((n : Int), (q : Int))) (hn : q + n ≤ s.size) (h3 : bKey (k, s.extract q (q + n)) = keyAt s a) : recAt s a = some (k, q, n) := by
  have hR := bRight_parts (key_right h0 h3)
  have hz : (s.extract q (q + n)).size = n := by simp; omega
  simp only [hz] at hR
  unfold recAt
  rw [if_neg (by omega), if_neg (by simp [h1]), h]
  simp only
  rw [if_neg (fun hc => hc hR.1), h2]
  simp only
  have e1 : ((q : Int)).toNat = q := by omega
  have e2 : ((q : Int) + (n : Int)).toNat = q + n := by omega
  have e3 : ((n : Int)).toNat = n := by omega
  rw [if_neg (by omega), e1, e2, e3]
  unfold keyAt at h3
  rw [if_pos h3]
/-- what is there, where a record is -/
theorem rec_some {s : ByteArray} {a : Nat} {k : Int} {q n : Nat} (h : recAt s a = some (k, q, n)) : a + 33 ≤ s.size ∧ s.data.toList[a]? = some 66 ∧ a < q + n ∧ q + n ≤ s.size ∧ n ≤ 2000 ∧ (k = 1 ∨ k = 2) ∧ bKey (k, s.extract q (q + n)) = keyAt s a := by
  unfold recAt at h
  split at h
  · simp at h
  rename_i g1
  split at h
  · simp at h
  rename_i g2
  cases h1 : num.G s (a + 33 : Nat) with
  | error c => rw [h1] at h; simp at h
  | ok x =>
    obtain ⟨k', p⟩ := x
    rw [h1] at h
    simp only at h
    split at h
    · simp at h
    rename_i g3
    obtain ⟨P, rfl, p1, p2⟩ := G_nat h1
    cases h2 : num.G s (P : Nat) with
    | error c => rw [h2] at h; simp at h
    | ok y =>
      obtain ⟨n', q'⟩ := y
      rw [h2] at h
      simp only at h
      split at h
      · simp at h
      rename_i g4
      split at h
      · rename_i g5
        obtain ⟨Q, rfl, q1, q2⟩ := G_nat h2
        simp only [Option.some.injEq, Prod.mk.injEq] at h
        obtain ⟨rfl, r1, r2⟩ := h
        have e1 : q = Q := by omega
        have e2 : (n : Int) = n' := by omega
        subst e1 e2
        have e3 : ((q : Int) + (n : Int)).toNat = q + n := by omega
        have e4 : ((q : Int)).toNat = q := by omega
        rw [e3, e4] at g5
        exact ⟨by omega, by simpa using g2, by omega, by omega, by omega, Decidable.not_not.1 g3, g5⟩
      · simp at h
end Go.Proofs.YtmoojhnblakdhaaGreat.pack
namespace Go.Proofs.YtmoojhnblakdhaaGreat.pack
open Go.RowKit
open Go.Proofs.YtmoojhnblakdhaaGreat.base
open Go.Proofs.YtmoojhnblakdhaaGreat.sha (digest)
set_option linter.unusedVariables false

/-- the entries from a place on -/
def scanF (s : ByteArray) : Nat → Nat → List (ByteArray × Int × Int × Int)
  | 0, _ => []
  | f + 1, a => if s.size ≤ a then [] else
    match recAt s a with
    | none => scanF s f (a + 1)
    | some (k, q, n) => (keyAt s a, k, (q : Int), (n : Int)) :: scanF s f (q + n)
theorem scanF_fuel (s : ByteArray) : ∀ f a, s.size ≤ a + f → scanF s f a = scanF s (s.size - a) a := by
  intro f
  induction f using Nat.strongRecOn with
  | _ f ih =>
    intro a h
    by_cases ha : s.size ≤ a
    · rw [show s.size - a = 0 by omega]
      cases f with
      | zero => rfl
      | succ f => unfold scanF; rw [if_pos ha]
    · cases f with
      | zero => omega
      | succ f =>
        obtain ⟨m, hm⟩ : ∃ m, s.size - a = m + 1 := ⟨s.size - a - 1, by omega⟩
        rw [hm]
        unfold scanF
        rw [if_neg ha, if_neg ha]
        cases hr : recAt s a with
        | none =>
          simp only
          rw [ih f (by omega) (a + 1) (by omega)]
          by_cases hmf : m < f + 1
          · rw [ih m hmf (a + 1) (by omega)]
          · omega
        | some x =>
          obtain ⟨k, q, n⟩ := x
          simp only
          have hq := rec_some hr
          rw [ih f (by omega) (q + n) (by omega)]
          by_cases hmf : m < f + 1
          · rw [ih m hmf (q + n) (by omega)]
          · omega
def scan (s : ByteArray) (a : Nat) : List (ByteArray × Int × Int × Int) := scanF s (s.size - a) a
theorem scan_end {s : ByteArray} {a : Nat} (h : s.size ≤ a) : scan s a = [] := by
  unfold scan
  rw [show s.size - a = 0 by omega]
  rfl
theorem scan_no {s : ByteArray} {a : Nat} (h : a < s.size) (hr : recAt s a = none) : scan s a = scan s (a + 1) := by
  unfold scan
  obtain ⟨m, hm⟩ : ∃ m, s.size - a = m + 1 := ⟨s.size - a - 1, by omega⟩
  rw [hm, scanF, if_neg (by omega), hr]
  simp only
  rw [scanF_fuel s m (a + 1) (by omega)]
theorem scan_yes {s : ByteArray} {a : Nat} {k : Int} {q n : Nat} (h : a < s.size) (hr : recAt s a = some (k, q, n)) : scan s a = (keyAt s a, k, (q : Int), (n : Int)) :: scan s (q + n) := by
  have hq := rec_some hr
  unfold scan
  obtain ⟨m, hm⟩ : ∃ m, s.size - a = m + 1 := ⟨s.size - a - 1, by omega⟩
  rw [hm, scanF, if_neg (by omega), hr]
  simp only
  rw [scanF_fuel s m (q + n) (by omega)]
theorem scanF_len (s : ByteArray) : ∀ f a, (scanF s f a).length ≤ f := by
  intro f
  induction f with
  | zero => intro a; simp [scanF]
  | succ f ih =>
    intro a
    unfold scanF
    split
    · simp
    · split
      · have := ih (a + 1); omega
      · rename_i k q n _
        have := ih (q + n)
        simp only [List.length_cons]
        omega
theorem scan_len (s : ByteArray) (a : Nat) : (scan s a).length ≤ s.size := Nat.le_trans (scanF_len s _ a) (by omega)
/-- what PackScan tells -/
def scanT (s : ByteArray) : List (ByteArray × Int × Int × Int) := if 20000 < s.size then [] else scan s 0
theorem scanT_len (s : ByteArray) : (scanT s).length ≤ 20000 := by
  unfold scanT
  split
  · simp
  · have := scan_len s 0; omega

/-- the blobs of the records from a place on; else the place at which there is none -/
def readF (s : ByteArray) : Nat → Nat → Except Nat (List (Int × ByteArray))
  | 0, _ => .ok []
  | f + 1, a => if s.size ≤ a then .ok [] else
    match recAt s a with
    | none => .error a
    | some (k, q, n) => (readF s f (q + n)).map (fun l => (k, s.extract q (q + n)) :: l)
theorem readF_fuel (s : ByteArray) : ∀ f a, s.size ≤ a + f → readF s f a = readF s (s.size - a) a := by
  intro f
  induction f using Nat.strongRecOn with
  | _ f ih =>
    intro a h
    by_cases ha : s.size ≤ a
    · rw [show s.size - a = 0 by omega]
      cases f with
      | zero => rfl
      | succ f => unfold readF; rw [if_pos ha]
    · cases f with
      | zero => omega
      | succ f =>
        obtain ⟨m, hm⟩ : ∃ m, s.size - a = m + 1 := ⟨s.size - a - 1, by omega⟩
        rw [hm]
        unfold readF
        rw [if_neg ha, if_neg ha]
        cases hr : recAt s a with
        | none => rfl
        | some x =>
          obtain ⟨k, q, n⟩ := x
          simp only
          have hq := rec_some hr
          rw [ih f (by omega) (q + n) (by omega)]
          by_cases hmf : m < f + 1
          · rw [ih m hmf (q + n) (by omega)]
          · omega
def reads (s : ByteArray) (a : Nat) : Except Nat (List (Int × ByteArray)) := readF s (s.size - a) a
theorem reads_end {s : ByteArray} {a : Nat} (h : s.size ≤ a) : reads s a = .ok [] := by
  unfold reads
  rw [show s.size - a = 0 by omega]
  rfl
theorem reads_no {s : ByteArray} {a : Nat} (h : a < s.size) (hr : recAt s a = none) : reads s a = .error a := by
  unfold reads
  obtain ⟨m, hm⟩ : ∃ m, s.size - a = m + 1 := ⟨s.size - a - 1, by omega⟩
  rw [hm, readF, if_neg (by omega), hr]
theorem reads_yes {s : ByteArray} {a : Nat} {k : Int} {q n : Nat} (h : a < s.size) (hr : recAt s a = some (k, q, n)) : reads s a = (reads s (q + n)).map (fun l => (k, s.extract q (q + n)) :: l) := by
  have hq := rec_some hr
  unfold reads
  obtain ⟨m, hm⟩ : ∃ m, s.size - a = m + 1 := ⟨s.size - a - 1, by omega⟩
  rw [hm, readF, if_neg (by omega), hr]
  simp only
  rw [readF_fuel s m (q + n) (by omega)]
/-- the walk's word: what was read, and what is still to be read -/
def Read (s : ByteArray) (acc : List (Int × ByteArray)) (a : Nat) : Prop := reads s 0 = (reads s a).map (fun l => acc ++ l)
theorem Read.start (s : ByteArray) : Read s [] 0 := by
  unfold Read
  cases reads s 0 <;> simp [Except.map]
theorem Read.next {s : ByteArray} {acc : List (Int × ByteArray)} {a : Nat} {k : Int} {q n : Nat} (hR : Read s acc a) (h : a < s.size) (hr : recAt s a = some (k, q, n)) : Read s (acc ++ [(k, s.extract q (q + n))]) (q + n) := by
  unfold Read at hR ⊢
  rw [hR, reads_yes h hr]
  cases reads s (q + n) <;> simp [Except.map]
theorem Read.fin {s : ByteArray} {acc : List (Int × ByteArray)} {a : Nat} (hR : Read s acc a) (h : s.size ≤ a) : reads s 0 = .ok acc := by
  unfold Read at hR
  rw [hR, reads_end h]
  simp [Except.map]
theorem Read.no {s : ByteArray} {acc : List (Int × ByteArray)} {a : Nat} (hR : Read s acc a) (h : a < s.size) (hr : recAt s a = none) : reads s 0 = .error a := by
  unfold Read at hR
  rw [hR, reads_no h hr]
  rfl
theorem readF_len (s : ByteArray) : ∀ f a l, readF s f a = .ok l → l.length ≤ f ∧ ∀ b ∈ l, b.2.size ≤ 2000 := by
  intro f
  induction f with
  | zero => intro a l h; simp [readF] at h; subst h; simp
  | succ f ih =>
    intro a l h
    unfold readF at h
    split at h
    · simp at h; subst h; simp
    · split at h
      · simp at h
      · rename_i k q n hr
        have hq := rec_some hr
        cases h2 : readF s f (q + n) with
        | error c => rw [h2] at h; simp [Except.map] at h
        | ok l' =>
          rw [h2] at h
          simp [Except.map] at h
          subst h
          have := ih (q + n) l' h2
          refine ⟨by simp only [List.length_cons]; omega, ?_⟩
          intro b hb
          rcases List.mem_cons.1 hb with rfl | hb
          · simp
            omega
          · exact this.2 b hb
theorem reads_len {s : ByteArray} {l : List (Int × ByteArray)} (h : reads s 0 = .ok l) : l.length ≤ s.size ∧ ∀ b ∈ l, b.2.size ≤ 2000 := by
  have := readF_len s _ _ l h
  exact ⟨by omega, this.2⟩
/-- what PackRead tells: blobs, place, code -/
def readT (s : ByteArray) : List (Int × ByteArray) × Int × Int :=
  if 20000 < s.size then ([], 0, 2) else
  match reads s 0 with
  | .error a => ([], (a : Int), 3)
  | .ok l => if packR l = true then (l, 0, 0) else ([], 0, 1)
theorem readT_len (s : ByteArray) : (readT s).1.length ≤ 20000 ∧ ∀ b ∈ (readT s).1, b.2.size ≤ 2000 := by
  unfold readT
  split
  · simp
  · split
    · simp
    · rename_i l h
      split
      · have := reads_len h
        exact ⟨by simp only; omega, this.2⟩
      · simp
end Go.Proofs.YtmoojhnblakdhaaGreat.pack
namespace Go.Proofs.YtmoojhnblakdhaaGreat.plc
open Go.RowKit Go.Joins
open Go.Proofs.YtmoojhnblakdhaaGreat.base Go.Proofs.YtmoojhnblakdhaaGreat.blk Go.Proofs.YtmoojhnblakdhaaGreat.aid
open Go.Proofs.YtmoojhnblakdhaaGreat.obj (objB objB_small)
open Go.Proofs.YtmoojhnblakdhaaGreat.pack (scanT scanT_len)
set_option linter.unusedVariables false

abbrev En : Type := ByteArray × Int × Int × Int
def toP (k : ByteArray) (e : En) : Pl := (e.1, k, e.2.1, e.2.2.1, e.2.2.2)
def near (e : En) : Bool := decide (e.2.2.1 ≤ 12000)
/-- the places of a pack's entries -/
def found (k : ByteArray) (l : List En) : List Pl := (l.filter near).map (toP k)
/-- what PlacesOf answers -/
def ofA (k s : ByteArray) : List Pl := if objB k = true then ((found k (scanT s)).foldl put []).take 300 else []
theorem found_no {k : ByteArray} {l : List En} {i : Nat} {e : En} (h : l[i]? = some e) (hn : near e = false) : found k (l.take (i + 1)) = found k (l.take i) := by
  unfold found
  rw [List.take_add_one, h]
  simp [List.filter_append, hn]
theorem found_yes {k : ByteArray} {l : List En} {i : Nat} {e : En} (h : l[i]? = some e) (hn : near e = true) : found k (l.take (i + 1)) = found k (l.take i) ++ [toP k e] := by
  unfold found
  rw [List.take_add_one, h]
  simp [List.filter_append, hn]
theorem found_len (k : ByteArray) (l : List En) : (found k l).length ≤ l.length := by
  unfold found
  rw [List.length_map]
  exact List.length_filter_le _ _
theorem put_foldl_len : ∀ (l a : List Pl), (l.foldl put a).length ≤ a.length + l.length
  | [], a => by simp
  | x :: l, a => by
    have h := put_foldl_len l (put a x)
    have h2 := put_len a x
    simp only [List.foldl_cons, List.length_cons]
    omega
theorem ofA_len (k s : ByteArray) : (ofA k s).length ≤ 300 := by
  unfold ofA
  split
  · rw [List.length_take]; omega
  · simp
end Go.Proofs.YtmoojhnblakdhaaGreat.plc
