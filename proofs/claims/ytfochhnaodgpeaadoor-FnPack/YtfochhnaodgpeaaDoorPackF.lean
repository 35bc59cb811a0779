/-
  Plain facts: the records of right blobs, one behind the other, are read back as just these blobs; what is read tells just the bytes that were read. No condition.
-/
import Derived.Test.YtfochhnaodgpeaaDoorScanP
namespace Go.Proofs.YtfochhnaodgpeaaDoor.packf
open Go.RowKit
open Go.Proofs.YtfochhnaodgpeaaDoor.base Go.Proofs.YtfochhnaodgpeaaDoor.pack
open Go.Proofs.YtfochhnaodgpeaaDoor.num (rd unfold G G_ok)
open Go.Proofs.YtfochhnaodgpeaaDoor.fnExactPutText (pre)
set_option linter.unusedVariables false

theorem pow9 {u j : Nat} (h : u * 128 ^ j < 18446744073709551616) (h9 : j = 9) : u < 2 := by
  subst h9
  have e : (128 : Nat) ^ 9 = 9223372036854775808 := by decide +kernel
  rw [e] at h
  omega
theorem byte_small {u : Nat} (h : u < 256) : (UInt8.ofNat u).toNat = u := by
  rw [UInt8.toNat_ofNat']
  omega
theorem next_le {u j : Nat} (h : u * 128 ^ j < 18446744073709551616) : u / 128 * 128 ^ (j + 1) < 18446744073709551616 := by
  have e : u / 128 * 128 ^ (j + 1) = 128 * (u / 128) * 128 ^ j := by
    rw [Nat.pow_succ, Nat.mul_comm (128 ^ j) 128, ← Nat.mul_assoc, Nat.mul_comm (u / 128) 128]
  have k : 128 * (u / 128) * 128 ^ j ≤ u * 128 ^ j := Nat.mul_le_mul_right _ (Nat.mul_div_le u 128)
  omega
/-- the bytes of a number, read, tell it, whatever stands behind them -/
theorem rd_num : ∀ (u j v : Nat) (rest : List UInt8), u * 128 ^ j < 18446744073709551616 → (0 < j → 0 < u) → rd (num u ++ rest) j v = .ok (v + u * 128 ^ j, j + (num u).length) := by
  intro u
  induction u using Nat.strongRecOn with
  | _ u ih =>
    intro j v rest hb hp
    have h9 := pow9 hb
    rcases Nat.lt_or_ge u 128 with h | h
    · rw [num_small h]
      have e : [UInt8.ofNat u] ++ rest = UInt8.ofNat u :: rest := rfl
      rw [e, rd, byte_small (by omega), if_neg (by omega), if_pos h, if_neg (by omega)]
      rfl
    · rw [num_big h]
      have e : (UInt8.ofNat (u % 128 + 128) :: num (u / 128)) ++ rest = UInt8.ofNat (u % 128 + 128) :: (num (u / 128) ++ rest) := rfl
      rw [e, rd, byte_small (by omega), if_neg (by omega), if_neg (by omega), ih (u / 128) (by omega) (j + 1) _ rest (next_le hb) (by omega)]
      have e1 : (u % 128 + 128) % 128 = u % 128 := by omega
      have e2 : u / 128 * 128 ^ (j + 1) = 128 * (u / 128) * 128 ^ j := by
        rw [Nat.pow_succ, Nat.mul_comm (128 ^ j) 128, ← Nat.mul_assoc, Nat.mul_comm (u / 128) 128]
      have e3 : u % 128 * 128 ^ j + 128 * (u / 128) * 128 ^ j = u * 128 ^ j := by rw [← Nat.add_mul, Nat.mod_add_div]
      rw [e1, e2, Nat.add_assoc, e3]
      simp only [List.length_cons]
      have e4 : j + 1 + (num (u / 128)).length = j + ((num (u / 128)).length + 1) := by omega
      rw [e4]
/-- bytes of which a number is read begin with just the bytes of this number -/
theorem rd_inv : ∀ (l : List UInt8) (j v u m : Nat), rd l j v = .ok (u, m) → ∃ x rest, u = v + x * 128 ^ j ∧ l = num x ++ rest ∧ m = j + (num x).length ∧ (0 < j → 0 < x)
  | [], j, v, u, m, h => by simp [rd] at h
  | c :: r, j, v, u, m, h => by
    unfold rd at h
    split at h
    · simp at h
    rename_i g1
    split at h
    · rename_i g2
      split at h
      · simp at h
      rename_i g3
      simp at h
      refine ⟨c.toNat, r, h.1.symm, ?_, ?_, by omega⟩
      · rw [num_small g2]
        simp
      · rw [num_small g2]
        simp
        omega
    · rename_i g2
      obtain ⟨x, rest, h1, h2, h3, h4⟩ := rd_inv r (j + 1) _ u m h
      have h4' := h4 (by omega)
      have hc : c.toNat < 256 := UInt8.toNat_lt c
      have e1 : (c.toNat % 128 + 128 * x) % 128 = c.toNat % 128 := by omega
      have e2 : (c.toNat % 128 + 128 * x) / 128 = x := by omega
      have e3 : c.toNat % 128 + 128 = c.toNat := by omega
      have en : num (c.toNat % 128 + 128 * x) = c :: num x := by
        rw [num_big (by omega), e1, e2, e3]
        simp
      refine ⟨c.toNat % 128 + 128 * x, rest, ?_, by rw [en, h2]; rfl, by rw [en, h3]; simp; omega, by omega⟩
      rw [h1, Nat.pow_succ, Nat.add_mul, Nat.mul_comm (128 ^ j) 128, ← Nat.mul_assoc, Nat.mul_comm x 128]
      omega

theorem len_list (a : ByteArray) : a.data.toList.length = a.size := by rw [Array.length_toList]; rfl
theorem toList_extract (a : ByteArray) (i j : Nat) : (a.extract i j).data.toList = (a.data.toList.take j).drop i := by
  rw [ByteArray.data_extract, Array.toList_extract, List.extract_eq_take_drop, List.drop_take]
theorem unfold_even (k : Nat) : unfold (2 * k) = (k : Int) := by
  unfold unfold
  rw [if_neg (by omega)]
  omega
theorem even_unfold {u : Nat} {n : Int} (h : unfold u = n) (h0 : 0 ≤ n) : u = 2 * n.toNat := by
  unfold unfold at h
  split at h <;> omega
/-- what stands ahead of a place and behind it -/
theorem drop_split {l a b : List UInt8} {n : Nat} (h : l.drop n = a ++ b) : l.drop (n + a.length) = b := by
  rw [← List.drop_drop, h, List.drop_left]

theorem G_fwd {s : ByteArray} {a k : Nat} {rest : List UInt8} (hs : s.size ≤ 20000) (hk : k ≤ 2000) (h : s.data.toList.drop a = num (2 * k) ++ rest) : G s a = .ok ((k : Int), ((a + (num (2 * k)).length : Nat) : Int)) := by
  have k1 := rd_num (2 * k) 0 0 rest (by simp; omega) (by omega)
  rw [← h] at k1
  have g := G_ok hs k1
  rw [g]
  congr 2
  · rw [show 0 + 2 * k * 128 ^ 0 = 2 * k by simp]
    exact unfold_even k
  · omega
theorem G_bwd {s : ByteArray} {a : Nat} {n p : Int} (h : G s a = .ok (n, p)) (h0 : 0 ≤ n) : p = ((a + (num (2 * n.toNat)).length : Nat) : Int) ∧ s.data.toList.drop a = num (2 * n.toNat) ++ s.data.toList.drop (a + (num (2 * n.toNat)).length) := by
  unfold G at h
  split at h
  · simp at h
  · split at h
    · simp at h
    · rw [Int.toNat_natCast] at h
      cases hr : rd (s.data.toList.drop a) 0 0 with
      | error c => rw [hr] at h; simp at h
      | ok x =>
        obtain ⟨u, m⟩ := x
        rw [hr] at h
        simp at h
        obtain ⟨x, rest, h1, h2, h3, _⟩ := rd_inv _ _ _ _ _ hr
        have e : u = 2 * n.toNat := even_unfold h.1 h0
        have ex : x = 2 * n.toNat := by simp at h1; omega
        subst ex
        refine ⟨by omega, ?_⟩
        rw [drop_split h2]
        exact h2

/-- the bytes of a record -/
theorem recL_eq (b : Int × ByteArray) : recL b = 66 :: ((bKey b).data.toList ++ (num (2 * b.1.toNat) ++ (num (2 * b.2.size) ++ b.2.data.toList))) := by
  unfold recL recd numB pre
  simp
theorem key_len {b : Int × ByteArray} (h : bRight b = true) : (bKey b).data.toList.length = 32 := by rw [len_list, bKey_size h]

theorem rec_fwd {s : ByteArray} {a : Nat} {b : Int × ByteArray} {rest : List UInt8} (hs : s.size ≤ 20000) (hb : bRight b = true) (h : s.data.toList.drop a = recL b ++ rest) :
    ∃ q, recAt s a = some (b.1, q, b.2.size) ∧ q + b.2.size = a + (recL b).length ∧ s.extract q (q + b.2.size) = b.2 ∧ keyAt s a = bKey b := by
  obtain ⟨hk, ht⟩ := bRight_parts hb
  have hkl := key_len hb
  have e := recL_eq b
  rw [e] at h
  have hl := len_list s
  have hlen : (s.data.toList.drop a).length = s.size - a := by rw [List.length_drop, hl]
  have hlen2 := hlen
  rw [h] at hlen2
  simp only [List.length_append, List.length_cons, hkl, len_list] at hlen2
  have g0 : s.data.toList[a]? = some 66 := by
    have h0 : (s.data.toList.drop a)[0]? = some 66 := by rw [h]; rfl
    rw [List.getElem?_drop] at h0
    simpa using h0
  have d1 : s.data.toList.drop (a + 1) = (bKey b).data.toList ++ (num (2 * b.1.toNat) ++ (num (2 * b.2.size) ++ (b.2.data.toList ++ rest))) := by
    have h1 : s.data.toList.drop a = [66] ++ ((bKey b).data.toList ++ (num (2 * b.1.toNat) ++ (num (2 * b.2.size) ++ (b.2.data.toList ++ rest)))) := by rw [h]; simp
    exact drop_split h1
  have d2 : s.data.toList.drop (a + 33) = num (2 * b.1.toNat) ++ (num (2 * b.2.size) ++ (b.2.data.toList ++ rest)) := by
    have := drop_split d1
    rw [hkl] at this
    exact this
  have d3 := drop_split d2
  have d4 := drop_split d3
  have d5 := drop_split d4
  have G1 := G_fwd hs (by omega) d2
  have G2 := G_fwd hs ht d3
  have ek : ((b.1.toNat : Nat) : Int) = b.1 := by omega
  rw [ek] at G1
  have k1 : keyAt s a = bKey b := by
    refine ByteArray.ext (Array.toList_inj.1 ?_)
    unfold keyAt
    rw [toList_extract, List.drop_take, d1, show a + 33 - (a + 1) = (bKey b).data.toList.length by omega, List.take_left]
  have k2 : s.extract (a + 33 + (num (2 * b.1.toNat)).length + (num (2 * b.2.size)).length) (a + 33 + (num (2 * b.1.toNat)).length + (num (2 * b.2.size)).length + b.2.size) = b.2 := by
    refine ByteArray.ext (Array.toList_inj.1 ?_)
    rw [toList_extract, List.drop_take, d4, show ∀ x : Nat, x + b.2.size - x = b.2.data.toList.length by intro x; rw [len_list]; omega, List.take_left]
  refine ⟨a + 33 + (num (2 * b.1.toNat)).length + (num (2 * b.2.size)).length, ?_, ?_, k2, k1⟩
  · exact rec_ok (by omega) g0 G1 G2 (by omega) (by rw [k2, k1])
  · rw [e]
    simp only [List.length_append, List.length_cons, hkl, len_list]
    omega

theorem rec_parts {s : ByteArray} {a : Nat} {k : Int} {q n : Nat} (h : recAt s a = some (k, q, n)) : ∃ p, G s (a + 33 : Nat) = .ok (k, p) ∧ G s p = .ok ((n : Int), (q : Int)) := by
  unfold recAt at h
  split at h
  · simp at h
  split at h
  · simp at h
  cases h1 : G s (a + 33 : Nat) with
  | error c => rw [h1] at h; simp at h
  | ok x =>
    obtain ⟨k', p⟩ := x
    rw [h1] at h
    simp only at h
    split at h
    · simp at h
    obtain ⟨P, rfl, p1, p2⟩ := G_nat h1
    cases h2 : G s (P : Nat) with
    | error c => rw [h2] at h; simp at h
    | ok y =>
      obtain ⟨n', q'⟩ := y
      rw [h2] at h
      simp only at h
      split at h
      · simp at h
      rename_i g4
      split at h
      · obtain ⟨Q, rfl, q1, q2⟩ := G_nat h2
        simp only [Option.some.injEq, Prod.mk.injEq] at h
        obtain ⟨rfl, r1, r2⟩ := h
        refine ⟨P, rfl, ?_⟩
        rw [h2]
        congr 2 <;> omega
      · simp at h
theorem rec_bwd {s : ByteArray} {a : Nat} {k : Int} {q n : Nat} (h : recAt s a = some (k, q, n)) : s.data.toList.drop a = recL (k, s.extract q (q + n)) ++ s.data.toList.drop (q + n) := by
  obtain ⟨p1, p2, p3, p4, p5, p6, p7⟩ := rec_some h
  obtain ⟨p, G1, G2⟩ := rec_parts h
  obtain ⟨rfl, d1⟩ := G_bwd G1 (by omega)
  obtain ⟨eq, d2⟩ := G_bwd G2 (by omega)
  rw [Int.toNat_natCast] at eq d2
  have hl := len_list s
  have hz : (s.extract q (q + n)).size = n := by simp; omega
  have eq' : q = a + 33 + (num (2 * k.toNat)).length + (num (2 * n)).length := by omega
  rw [recL_eq]
  simp only [hz]
  rw [p7]
  have e0 : s.data.toList.drop a = 66 :: s.data.toList.drop (a + 1) := by
    rw [List.drop_eq_getElem_cons (by omega)]
    congr 1
    have := List.getElem?_eq_getElem (l := s.data.toList) (i := a) (by omega)
    rw [p2] at this
    simpa using this.symm
  have e1 : (keyAt s a).data.toList ++ s.data.toList.drop (a + 33) = s.data.toList.drop (a + 1) := by
    unfold keyAt
    rw [toList_extract, List.drop_take, show a + 33 - (a + 1) = 32 by omega]
    have : s.data.toList.drop (a + 33) = (s.data.toList.drop (a + 1)).drop 32 := by rw [List.drop_drop]
    rw [this, List.take_append_drop]
  have e2 : (s.extract q (q + n)).data.toList ++ s.data.toList.drop (q + n) = s.data.toList.drop q := by
    rw [toList_extract, List.drop_take, show q + n - q = n by omega]
    have : s.data.toList.drop (q + n) = (s.data.toList.drop q).drop n := by rw [List.drop_drop]
    rw [this, List.take_append_drop]
  rw [e0, ← e1, d1, d2, ← eq', ← e2]
  simp

theorem reads_fwd (s : ByteArray) (hs : s.size ≤ 20000) : ∀ (l : List (Int × ByteArray)) (a : Nat), (∀ b ∈ l, bRight b = true) → s.data.toList.drop a = recsL l → reads s a = .ok l
  | [], a, _, h => by
    refine reads_end ?_
    have := congrArg List.length h
    rw [List.length_drop, len_list] at this
    simp [recsL] at this
    omega
  | b :: r, a, hr, h => by
    have e : recsL (b :: r) = recL b ++ recsL r := by simp [recsL]
    rw [e] at h
    obtain ⟨q, h1, h2, h3, _⟩ := rec_fwd hs (hr b (List.mem_cons_self ..)) h
    have hlt : a < s.size := by
      have := congrArg List.length h
      rw [List.length_drop, len_list, List.length_append, recL_eq] at this
      simp at this
      omega
    rw [reads_yes hlt h1, h3, h2, reads_fwd s hs r _ (fun x hx => hr x (List.mem_cons_of_mem _ hx)) (drop_split h)]
    rfl
theorem reads_bwd (s : ByteArray) : ∀ (f a : Nat) (l : List (Int × ByteArray)), s.size ≤ a + f → reads s a = .ok l → s.data.toList.drop a = recsL l := by
  intro f
  induction f using Nat.strongRecOn with
  | _ f ih =>
    intro a l hf h
    by_cases ha : s.size ≤ a
    · rw [reads_end ha] at h
      cases h
      rw [List.drop_of_length_le (by rw [len_list]; omega)]
      rfl
    · cases hr : recAt s a with
      | none => rw [reads_no (by omega) hr] at h; cases h
      | some x =>
        obtain ⟨k, q, n⟩ := x
        rw [reads_yes (by omega) hr] at h
        have hq := rec_some hr
        cases h2 : reads s (q + n) with
        | error c => rw [h2] at h; cases h
        | ok l2 =>
          rw [h2] at h
          cases h
          have h3 := ih (f - 1) (by omega) (q + n) l2 (by omega) h2
          rw [rec_bwd hr, h3]
          simp [recsL]

/-- the bytes of a pack are read back as its blobs -/
theorem read_pack {l : List (Int × ByteArray)} (h : packR l = true) : readT (packB l) = (l, 0, 0) := by
  have hz := packB_size l
  have hR := h
  simp only [packR, decide_eq_true_eq] at hR
  have e : (packB l).data.toList = recsL l := by
    unfold packB
    rw [if_pos h]
  unfold readT
  rw [if_neg (by omega), reads_fwd (packB l) (by omega) l 0 hR.2.2.1 (by rw [List.drop_zero]; exact e)]
  simp only
  rw [if_pos h]
/-- what is read of bytes is told by just these bytes -/
theorem pack_read {u : ByteArray} {l : List (Int × ByteArray)} {p : Int} (h : readT u = (l, p, 0)) : packB l = u := by
  unfold readT at h
  split at h
  · simp at h
  cases hr : reads u 0 with
  | error a => rw [hr] at h; simp at h
  | ok l' =>
    rw [hr] at h
    simp only at h
    split at h
    · rename_i hp
      simp only [Prod.mk.injEq] at h
      obtain ⟨rfl, _, _⟩ := h
      have := reads_bwd u u.size 0 l' (by omega) hr
      rw [List.drop_zero] at this
      unfold packB
      rw [if_pos hp, ← this]
    · simp at h
/-- of bytes that tell no blobs no place is told but of a missing record -/
theorem readT_code (u : ByteArray) : (readT u).2.2 = 0 ∨ (readT u).2.2 = 1 ∨ (readT u).2.2 = 2 ∨ (readT u).2.2 = 3 := by
  unfold readT
  split
  · simp
  · split
    · simp
    · split <;> simp
end Go.Proofs.YtfochhnaodgpeaaDoor.packf
