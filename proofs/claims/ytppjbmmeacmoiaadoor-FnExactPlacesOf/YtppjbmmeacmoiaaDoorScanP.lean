/-
  What reading and scanning a text tell, in plain words. No condition.
-/
import Derived.Test.YtppjbmmeacmoiaaDoorRecP
namespace Go.Proofs.YtppjbmmeacmoiaaDoor.pack
open Go.RowKit
open Go.Proofs.YtppjbmmeacmoiaaDoor.base
open Go.Proofs.YtppjbmmeacmoiaaDoor.sha (digest)
set_option linter.unusedVariables false

/-- the entries from a place on -/
def scanF (s : ByteArray) : Nat → Nat → List (ByteArray × Int × Int × Int)
  | 0, _ => []
  | f + 1, a => if s.size ≤ a then [] else
    match recAt s a with
    | none => scanF s f (a + 1)
    | some (k, q, n) => (keyAt s a, k, (q : Int), (n : Int)) :: scanF s f (q + n)
theorem scanF_fuel (s : ByteArray) : ∀ f a, s.size ≤ a + f → scanF s f a = scanF s (s.size - a) a := by
  intro f
  induction f using Nat.strongRecOn with
  | _ f ih =>
    intro a h
    by_cases ha : s.size ≤ a
    · rw [show s.size - a = 0 by omega]
      cases f with
      | zero => rfl
      | succ f => unfold scanF; rw [if_pos ha]
    · cases f with
      | zero => omega
      | succ f =>
        obtain ⟨m, hm⟩ : ∃ m, s.size - a = m + 1 := ⟨s.size - a - 1, by omega⟩
        rw [hm]
        unfold scanF
        rw [if_neg ha, if_neg ha]
        cases hr : recAt s a with
        | none =>
          simp only
          rw [ih f (by omega) (a + 1) (by omega)]
          by_cases hmf : m < f + 1
          · rw [ih m hmf (a + 1) (by omega)]
          · omega
        | some x =>
          obtain ⟨k, q, n⟩ := x
          simp only
          have hq := rec_some hr
          rw [ih f (by omega) (q + n) (by omega)]
          by_cases hmf : m < f + 1
          · rw [ih m hmf (q + n) (by omega)]
          · omega
def scan (s : ByteArray) (a : Nat) : List (ByteArray × Int × Int × Int) := scanF s (s.size - a) a
theorem scan_end {s : ByteArray} {a : Nat} (h : s.size ≤ a) : scan s a = [] := by
  unfold scan
  rw [show s.size - a = 0 by omega]
  rfl
theorem scan_no {s : ByteArray} {a : Nat} (h : a < s.size) (hr : recAt s a = none) : scan s a = scan s (a + 1) := by
  unfold scan
  obtain ⟨m, hm⟩ : ∃ m, s.size - a = m + 1 := ⟨s.size - a - 1, by omega⟩
  rw [hm, scanF, if_neg (by omega), hr]
  simp only
  rw [scanF_fuel s m (a + 1) (by omega)]
theorem scan_yes {s : ByteArray} {a : Nat} {k : Int} {q n : Nat} (h : a < s.size) (hr : recAt s a = some (k, q, n)) : scan s a = (keyAt s a, k, (q : Int), (n : Int)) :: scan s (q + n) := by
  have hq := rec_some hr
  unfold scan
  obtain ⟨m, hm⟩ : ∃ m, s.size - a = m + 1 := ⟨s.size - a - 1, by omega⟩
  rw [hm, scanF, if_neg (by omega), hr]
  simp only
  rw [scanF_fuel s m (q + n) (by omega)]
theorem scanF_len (s : ByteArray) : ∀ f a, (scanF s f a).length ≤ f := by
  intro f
  induction f with
  | zero => intro a; simp [scanF]
  | succ f ih =>
    intro a
    unfold scanF
    split
    · simp
    · split
      · have := ih (a + 1); omega
      · rename_i k q n _
        have := ih (q + n)
        simp only [List.length_cons]
        omega
theorem scan_len (s : ByteArray) (a : Nat) : (scan s a).length ≤ s.size := Nat.le_trans (scanF_len s _ a) (by omega)
/-- what PackScan tells -/
def scanT (s : ByteArray) : List (ByteArray × Int × Int × Int) := if 20000 < s.size then [] else scan s 0
theorem scanT_len (s : ByteArray) : (scanT s).length ≤ 20000 := by
  unfold scanT
  split
  · simp
  · have := scan_len s 0; omega

/-- the blobs of the records from a place on; else the place at which there is none -/
def readF (s : ByteArray) : Nat → Nat → Except Nat (List (Int × ByteArray))
  | 0, _ => .ok []
  | f + 1, a => if s.size ≤ a then .ok [] else
    match recAt s a with
    | none => .error a
    | some (k, q, n) => (readF s f (q + n)).map (fun l => (k, s.extract q (q + n)) :: l)
theorem readF_fuel (s : ByteArray) : ∀ f a, s.size ≤ a + f → readF s f a = readF s (s.size - a) a := by
  intro f
  induction f using Nat.strongRecOn with
  | _ f ih =>
    intro a h
    by_cases ha : s.size ≤ a
    · rw [show s.size - a = 0 by omega]
      cases f with
      | zero => rfl
      | succ f => unfold readF; rw [if_pos ha]
    · cases f with
      | zero => omega
      | succ f =>
        obtain ⟨m, hm⟩ : ∃ m, s.size - a = m + 1 := ⟨s.size - a - 1, by omega⟩
        rw [hm]
        unfold readF
        rw [if_neg ha, if_neg ha]
        cases hr : recAt s a with
        | none => rfl
        | some x =>
          obtain ⟨k, q, n⟩ := x
          simp only
          have hq := rec_some hr
          rw [ih f (by omega) (q + n) (by omega)]
          by_cases hmf : m < f + 1
          · rw [ih m hmf (q + n) (by omega)]
          · omega
def reads (s : ByteArray) (a : Nat) : Except Nat (List (Int × ByteArray)) := readF s (s.size - a) a
theorem reads_end {s : ByteArray} {a : Nat} (h : s.size ≤ a) : reads s a = .ok [] := by
  unfold reads
  rw [show s.size - a = 0 by omega]
  rfl
theorem reads_no {s : ByteArray} {a : Nat} (h : a < s.size) (hr : recAt s a = none) : reads s a = .error a := by
  unfold reads
  obtain ⟨m, hm⟩ : ∃ m, s.size - a = m + 1 := ⟨s.size - a - 1, by omega⟩
  rw [hm, readF, if_neg (by omega), hr]
theorem reads_yes {s : ByteArray} {a : Nat} {k : Int} {q n : Nat} (h : a < s.size) (hr : recAt s a = some (k, q, n)) : reads s a = (reads s (q + n)).map (fun l => (k, s.extract q (q + n)) :: l) := by
  have hq := rec_some hr
  unfold reads
  obtain ⟨m, hm⟩ : ∃ m, s.size - a = m + 1 := ⟨s.size - a - 1, by omega⟩
  rw [hm, readF, if_neg (by omega), hr]
  simp only
  rw [readF_fuel s m (q + n) (by omega)]
/-- the walk's word: what was read, and what is still to be read -/
def Read (s : ByteArray) (acc : List (Int × ByteArray)) (a : Nat) : Prop := reads s 0 = (reads s a).map (fun l => acc ++ l)
theorem Read.start (s : ByteArray) : Read s [] 0 := by
  unfold Read
  cases reads s 0 <;> simp [Except.map]
theorem Read.next {s : ByteArray} {acc : List (Int × ByteArray)} {a : Nat} {k : Int} {q n : Nat} (hR : Read s acc a) (h : a < s.size) (hr : recAt s a = some (k, q, n)) : Read s (acc ++ [(k, s.extract q (q + n))]) (q + n) := by
  unfold Read at hR ⊢
  rw [hR, reads_yes h hr]
  cases reads s (q + n) <;> simp [Except.map]
theorem Read.fin {s : ByteArray} {acc : List (Int × ByteArray)} {a : Nat} (hR : Read s acc a) (h : s.size ≤ a) : reads s 0 = .ok acc := by
  unfold Read at hR
  rw [hR, reads_end h]
  simp [Except.map]
theorem Read.no {s : ByteArray} {acc : List (Int × ByteArray)} {a : Nat} (hR : Read s acc a) (h : a < s.size) (hr : recAt s a = none) : reads s 0 = .error a := by
  unfold Read at hR
  rw [hR, reads_no h hr]
  rfl
theorem readF_len (s : ByteArray) : ∀ f a l, readF s f a = .ok l → l.length ≤ f ∧ ∀ b ∈ l, b.2.size ≤ 2000 := by
  intro f
  induction f with
  | zero => intro a l h; simp [readF] at h; subst h; simp
  | succ f ih =>
    intro a l h
    unfold readF at h
    split at h
    · simp at h; subst h; simp
    · split at h
      · simp at h
      · rename_i k q n hr
        have hq := rec_some hr
        cases h2 : readF s f (q + n) with
        | error c => rw [h2] at h; simp [Except.map] at h
        | ok l' =>
          rw [h2] at h
          simp [Except.map] at h
          subst h
          have := ih (q + n) l' h2
          refine ⟨by simp only [List.length_cons]; omega, ?_⟩
          intro b hb
          rcases List.mem_cons.1 hb with rfl | hb
          · simp
            omega
          · exact this.2 b hb
theorem reads_len {s : ByteArray} {l : List (Int × ByteArray)} (h : reads s 0 = .ok l) : l.length ≤ s.size ∧ ∀ b ∈ l, b.2.size ≤ 2000 := by
  have := readF_len s _ _ l h
  exact ⟨by omega, this.2⟩
/-- what PackRead tells: blobs, place, code -/
def readT (s : ByteArray) : List (Int × ByteArray) × Int × Int :=
  if 20000 < s.size then ([], 0, 2) else
  match reads s 0 with
  | .error a => ([], (a : Int), 3)
  | .ok l => if packR l = true then (l, 0, 0) else ([], 0, 1)
theorem readT_len (s : ByteArray) : (readT s).1.length ≤ 20000 ∧ ∀ b ∈ (readT s).1, b.2.size ≤ 2000 := by
  unfold readT
  split
  · simp
  · split
    · simp
    · rename_i l h
      split
      · have := reads_len h
        exact ⟨by simp only; omega, this.2⟩
      · simp
end Go.Proofs.YtppjbmmeacmoiaaDoor.pack
