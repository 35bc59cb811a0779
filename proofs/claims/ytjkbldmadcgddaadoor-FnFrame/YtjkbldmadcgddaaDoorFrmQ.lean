/-
  Reading frames in plain words: numbers that are read are told by just these bytes; what FrameRead tells. No condition.
-/
import Derived.Test.YtjkbldmadcgddaaDoorFrmP
import Derived.Test.YtjkbldmadcgddaaDoorGetP
namespace Go.Proofs.YtjkbldmadcgddaaDoor.frm
open Go.RowKit Go.Joins
open Go.Proofs.YtjkbldmadcgddaaDoor.base Go.Proofs.YtjkbldmadcgddaaDoor.blk Go.Proofs.YtjkbldmadcgddaaDoor.aid
open Go.Proofs.YtjkbldmadcgddaaDoor.sha (digest)
set_option linter.unusedVariables false

theorem rd_code : ∀ (l : List UInt8) (j u : Nat) (c : Int), num.rd l j u = .error c → c ≠ 0
  | [], j, u, c, h => by simp [num.rd] at h; omega
  | b :: r, j, u, c, h => by
    unfold num.rd at h
    split at h
    · simp at h; omega
    · split at h
      · split at h
        · simp at h; omega
        · simp at h
      · exact rd_code r _ _ c h
theorem G_code {s : ByteArray} {a : Int} {c : Int} (h : num.G s a = .error c) : c ≠ 0 := by
  unfold num.G at h
  split at h
  · simp at h; omega
  · split at h
    · simp at h; omega
    · cases hr : num.rd (s.data.toList.drop a.toNat) 0 0 with
      | error d => rw [hr] at h; simp at h; subst h; exact rd_code _ _ _ _ hr
      | ok x => rw [hr] at h; simp at h
theorem rd_back : ∀ (l : List UInt8) (j u u' m : Nat), num.rd l j u = .ok (u', m) → ∃ v, l.take (m - j) = base.num v ∧ u' = u + v * 128 ^ j ∧ (0 < j → 0 < v) ∧ j < m ∧ m ≤ j + l.length
  | [], j, u, u', m, h => by simp [num.rd] at h
  | c :: r, j, u, u', m, h => by
    unfold num.rd at h
    split at h
    · cases h
    · split at h
      · rename_i hc
        split at h
        · cases h
        · rename_i h0
          simp only [Except.ok.injEq, Prod.mk.injEq] at h
          obtain ⟨rfl, rfl⟩ := h
          refine ⟨c.toNat, ?_, rfl, fun hj => ?_, by omega, by simp⟩
          · rw [num_small hc]
            simp
          · rcases Nat.eq_zero_or_pos c.toNat with h1 | h1
            · exact absurd ⟨h1, hj⟩ h0
            · exact h1
      · rename_i hc
        obtain ⟨v, h1, h2, h3, h4, h5⟩ := rd_back r (j + 1) _ u' m h
        have hv := h3 (by omega)
        refine ⟨c.toNat % 128 + 128 * v, ?_, ?_, fun _ => by omega, by omega, by simp; omega⟩
        · rw [num_big (by omega)]
          have e1 : (c.toNat % 128 + 128 * v) / 128 = v := by omega
          have e2 : (c.toNat % 128 + 128 * v) % 128 = c.toNat % 128 := by omega
          have hc2 := c.toNat_lt
          have e3 : c.toNat % 128 + 128 = c.toNat := by omega
          rw [e1, e2, e3, ← h1]
          have e4 : m - j = (m - (j + 1)) + 1 := by omega
          rw [e4, List.take_succ_cons]
          simp
        · rw [h2, Nat.pow_succ, Nat.add_mul, Nat.add_assoc]
          congr 1
          congr 1
          rw [Nat.mul_comm 128 v, Nat.mul_assoc, Nat.mul_comm 128]
theorem G_nat {s : ByteArray} {a : Nat} {n p : Int} (h : num.G s a = .ok (n, p)) : ∃ P : Nat, p = P ∧ a < P ∧ P ≤ s.size ∧ (0 ≤ n → s.extract a P = numB n) := by
  unfold num.G at h
  split at h
  · cases h
  · split at h
    · cases h
    · split at h
      · cases h
      · rename_i u k hr
        simp only [Except.ok.injEq, Prod.mk.injEq] at h
        obtain ⟨rfl, rfl⟩ := h
        have e0 : (a : Int).toNat = a := by omega
        rw [e0] at hr
        obtain ⟨v, h1, h2, _, h4, h5⟩ := rd_back _ _ _ _ _ hr
        simp at h1 h2 h5
        refine ⟨a + k, by omega, by omega, by have : s.data.size = s.size := rfl; omega, fun hn => ?_⟩
        subst h2
        unfold num.unfold at hn ⊢
        unfold numB
        split at hn
        · omega
        · rename_i hp
          rw [if_neg hp]
          have e1 : 2 * ((u / 2 : Nat) : Int).toNat = u := by omega
          rw [e1, ← h1]
          apply ByteArray.ext
          apply Array.ext'
          simp [List.extract_eq_take_drop]
/-- n numbers are read from a place on
-/
def rdA (s : ByteArray) : Nat → Nat → List Int → Option (List Int × Nat)
  | 0, p, l => some (l, p)
  | n + 1, p, l => match num.G s p with | .error _ => none | .ok (z, q) => rdA s n q.toNat (l ++ [z])
theorem rdA_err {s : ByteArray} {n p : Nat} {l : List Int} {c : Int} (h : num.G s p = .error c) : rdA s (n + 1) p l = none := by
  rw [rdA, h]
theorem rdA_ok {s : ByteArray} {n p q : Nat} {l : List Int} {z : Int} (h : num.G s p = .ok (z, (q : Int))) : rdA s (n + 1) p l = rdA s n q (l ++ [z]) := by
  rw [rdA, h]
  simp
/-- what is read of a text -/
def readF (s : ByteArray) : Option (Int × Int × Int × Int × ByteArray × ByteArray) :=
  if s.size < 1 ∨ s.data.toList[0]? ≠ some 70 then none else
  match rdA s 4 1 [] with
  | some ([a, b, c, d], p) =>
    if s.size < p + 64 then none
    else if frmB a b c d (s.extract p (p + 32)) (s.extract (p + 64) s.size) = true ∧ digest (s.extract 0 (p + 32) ++ s.extract (p + 64) s.size) = s.extract (p + 32) (p + 64) then some (a, b, c, d, s.extract p (p + 32), s.extract (p + 64) s.size)
    else none
  | _ => none
theorem cat (s : ByteArray) {a b c : Nat} (h1 : a ≤ b) (h2 : b ≤ c) : s.extract a b ++ s.extract b c = s.extract a c := by
  apply ByteArray.ext
  simp
  rw [Nat.min_eq_left h1, Nat.max_eq_right h2]
theorem cancel {a d e x : ByteArray} (h : a ++ d ++ x = a ++ e ++ x) : d = e := by
  have h1 := congrArg (fun z => z.data.toList) h
  simp at h1
  exact ByteArray.ext h1
theorem rdA4 {s : ByteArray} {r : List Int × Nat} (h : rdA s 4 1 [] = some r) : ∃ a b c d p, r = ([a, b, c, d], p) ∧ 1 ≤ p ∧ p ≤ s.size ∧ (0 ≤ a → 0 ≤ b → 0 ≤ c → 0 ≤ d → s.extract 1 p = numB a ++ numB b ++ numB c ++ numB d) := by
  cases h1 : num.G s (1 : Nat) with
  | error c => rw [rdA_err h1] at h; cases h
  | ok o1 =>
    obtain ⟨a, q1⟩ := o1
    obtain ⟨p1, rfl, l1, s1, e1⟩ := G_nat h1
    rw [rdA_ok h1] at h
    cases h2 : num.G s p1 with
    | error c => rw [rdA_err h2] at h; cases h
    | ok o2 =>
      obtain ⟨b, q2⟩ := o2
      obtain ⟨p2, rfl, l2, s2, e2⟩ := G_nat h2
      rw [rdA_ok h2] at h
      cases h3 : num.G s p2 with
      | error c => rw [rdA_err h3] at h; cases h
      | ok o3 =>
        obtain ⟨c, q3⟩ := o3
        obtain ⟨p3, rfl, l3, s3, e3⟩ := G_nat h3
        rw [rdA_ok h3] at h
        cases h4 : num.G s p3 with
        | error c => rw [rdA_err h4] at h; cases h
        | ok o4 =>
          obtain ⟨d, q4⟩ := o4
          obtain ⟨p4, rfl, l4, s4, e4⟩ := G_nat h4
          rw [rdA_ok h4, rdA] at h
          cases h
          refine ⟨a, b, c, d, p4, rfl, by omega, s4, fun ha hb hc hd => ?_⟩
          rw [← e1 ha, ← e2 hb, ← e3 hc, ← e4 hd, cat s (by omega) (by omega), cat s (by omega) (by omega), cat s (by omega) (by omega)]
theorem one_byte {s : ByteArray} (h0 : 1 ≤ s.size) (h : s.data.toList[0]? = some 70) : s.extract 0 1 = ⟨#[70]⟩ := by
  apply ByteArray.ext
  apply Array.ext'
  obtain ⟨⟨l⟩⟩ := s
  cases l with
  | nil => simp at h
  | cons b r =>
    simp at h
    subst h
    simp
/-- a text is a frame's, just if what is read of it is right and has its digest -/
theorem text_iff {s : ByteArray} {a b c d : Int} {p : Nat} (h0 : s.data.toList[0]? = some 70) (hr : rdA s 4 1 [] = some ([a, b, c, d], p)) (hp : p + 64 ≤ s.size) :
    fbytes a b c d (s.extract p (p + 32)) (s.extract (p + 64) s.size) = s ↔ (frmB a b c d (s.extract p (p + 32)) (s.extract (p + 64) s.size) = true ∧ digest (s.extract 0 (p + 32) ++ s.extract (p + 64) s.size) = s.extract (p + 32) (p + 64)) := by
  obtain ⟨a', b', c', d', p', e, hp1, hp2, hx⟩ := rdA4 hr
  cases e
  unfold fbytes
  cases hf : frmB a b c d (s.extract p (p + 32)) (s.extract (p + 64) s.size) with
  | false =>
    simp only [Bool.false_eq_true, if_false, false_and, iff_false]
    intro e
    have e2 : (0 : Nat) = s.size := congrArg ByteArray.size e
    omega
  | true =>
    simp only [↓reduceIte, true_and]
    obtain ⟨p1, p2, p3, p4, p5, p6, p7, p8, _⟩ := frmB_parts hf
    have hh : headB a b c d (s.extract p (p + 32)) = s.extract 0 (p + 32) := by
      have h1 := hx (by omega) (by omega) (by omega) (by omega)
      unfold headB
      rw [← one_byte (by omega) h0]
      rw [show s.extract 0 1 ++ numB a ++ numB b ++ numB c ++ numB d = s.extract 0 1 ++ (numB a ++ numB b ++ numB c ++ numB d) by simp [ByteArray.append_assoc]]
      rw [← h1, cat s (by omega) hp1, cat s (by omega) (by omega)]
    have hs : s.extract 0 (p + 32) ++ s.extract (p + 32) (p + 64) ++ s.extract (p + 64) s.size = s := by
      rw [cat s (by omega) (by omega), cat s (by omega) (by omega)]
      exact ByteArray.extract_zero_size
    unfold frameB
    rw [hh]
    constructor
    · intro e
      exact cancel (e.trans hs.symm)
    · intro e
      rw [e]
      exact hs
/-- what is read is told by just these bytes -/
theorem readF_bytes {s : ByteArray} {k m i z : Int} {h x : ByteArray} (e : readF s = some (k, m, i, z, h, x)) : fbytes k m i z h x = s := by
  unfold readF at e
  split at e
  · cases e
  · rename_i h0
    simp only [not_or, Nat.not_lt, ne_eq, Classical.not_not] at h0
    split at e
    · rename_i a b c d p hr
      split at e
      · cases e
      · rename_i hp
        split at e
        · rename_i hc
          cases e
          exact (text_iff h0.2 hr (by omega)).2 hc
        · cases e
    · cases e
end Go.Proofs.YtjkbldmadcgddaaDoor.frm
