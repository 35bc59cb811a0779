/-
  Reading a snapshot from a text, in plain words. No condition.
-/
import Derived.Test.YtlcdbkelonbcfaaRrOne
import Derived.Test.YtlcdbkelonbcfaaSnB
namespace Go.Proofs.Ytlcdbkelonbcfaa.snp
open Go.RowKit Go.Joins
open Go.Proofs.Ytlcdbkelonbcfaa.base Go.Proofs.Ytlcdbkelonbcfaa.blk Go.Proofs.Ytlcdbkelonbcfaa.aid
open Go.Proofs.Ytlcdbkelonbcfaa.num (G T G_pos)
open Go.Proofs.Ytlcdbkelonbcfaa.plc (St numS txtS bytS oneS numS_yes txtS_yes txtS_ok numS_bad txtS_bad)
set_option linter.unusedVariables false
set_option linter.unusedSimpArgs false

/-- what the specification reads: a byte, a text, a number, 32 bytes -/
def r1 (s : ByteArray) : ByteArray × St := oneS s (0, false)
def r2 (s : ByteArray) : ByteArray × St := txtS s (r1 s).2
def r3 (s : ByteArray) : Int × St := numS s (r2 s).2
def r4 (s : ByteArray) : ByteArray × St := bytS s (r3 s).2
/-- was a right snapshot read? -/
def okS (s : ByteArray) : Bool := ((r1 s).1.toList == [83]) && ((!(r4 s).2.2) && (decide (((r4 s).2.1 : Int) = (s.size : Int)) && snapB (r2 s).1 (r3 s).1 (r4 s).1))
theorem one_le (s : ByteArray) (st : St) (h : st.1 ≤ s.size) : (oneS s st).2.1 ≤ s.size := by
  unfold oneS
  split
  · exact h
  · rename_i hn
    simp only [not_or] at hn
    simp only
    omega
theorem num_le (s : ByteArray) (st : St) (h : st.1 ≤ s.size) : (numS s st).2.1 ≤ s.size := by
  obtain ⟨a, f⟩ := st
  cases f with
  | true => rw [numS_bad]; exact h
  | false =>
    cases hG : num.G s (a : Int) with
    | error c => unfold numS; simp only [Bool.false_eq_true, if_false, hG]; exact h
    | ok r =>
      obtain ⟨P, _, h2, h3⟩ := numS_yes s a r.1 r.2 hG
      rw [h3]
      exact h2
theorem txt_le (s : ByteArray) (st : St) (h : st.1 ≤ s.size) : (txtS s st).2.1 ≤ s.size := by
  obtain ⟨a, f⟩ := st
  cases f with
  | true => rw [txtS_bad]; exact h
  | false =>
    cases hT : num.T s (a : Int) with
    | error c => unfold txtS; simp only [Bool.false_eq_true, if_false, hT]; exact h
    | ok r =>
      obtain ⟨P, _, h2, h3⟩ := txtS_yes s a r.1 r.2 hT
      rw [h3]
      exact h2
theorem byt_le (s : ByteArray) (st : St) (h : st.1 ≤ s.size) : (bytS s st).2.1 ≤ s.size := by
  unfold bytS
  split
  · exact h
  · rename_i hn
    simp only [not_or] at hn
    simp only
    omega
theorem txt_size (s : ByteArray) (st : St) (h : s.size ≤ 20000) : (txtS s st).1.size ≤ 20000 := by
  obtain ⟨a, f⟩ := st
  cases f with
  | true => rw [txtS_bad]; show 0 ≤ 20000; omega
  | false =>
    cases hT : T s (a : Int) with
    | error c => unfold txtS; simp only [Bool.false_eq_true, if_false, hT]; show 0 ≤ 20000; omega
    | ok r =>
      obtain ⟨t, p⟩ := r
      obtain ⟨P, _, h2, h3⟩ := txtS_yes s a t p hT
      rw [h3]
      obtain ⟨_, _, _, _, h4⟩ := txtS_ok h3
      have e := congrArg ByteArray.size h4
      rw [ByteArray.size_append, ByteArray.size_extract] at e
      simp only at e ⊢
      omega
theorem byt_size (s : ByteArray) (st : St) : (bytS s st).1.size ≤ 32 := by
  unfold bytS
  split
  · show 0 ≤ 32; omega
  · simp only [ByteArray.size_extract]; omega
theorem oneS_no {s : ByteArray} (h : s.size < 1) : r1 s = (⟨#[]⟩, (0, true)) := by unfold r1 oneS; rw [if_pos (.inr (by simpa using h))]
theorem oneS_yes {s : ByteArray} (h : ¬ s.size < 1) : r1 s = (s.extract 0 1, (1, false)) := by unfold r1 oneS; rw [if_neg (by simp only [Bool.false_eq_true, false_or]; omega)]
theorem bad_last {s : ByteArray} (h : (r3 s).2.2 = true) : okS s = false := by
  have h4 : (r4 s).2.2 = true := by
    unfold r4 bytS
    rw [if_pos (.inl h)]
  unfold okS
  rw [h4]
  simp
theorem bad_two {s : ByteArray} (h : (r2 s).2.2 = true) : okS s = false := by
  apply bad_last
  unfold r3
  revert h
  generalize (r2 s).2 = q
  obtain ⟨a, f⟩ := q
  intro h
  simp only at h
  subst h
  rw [numS_bad]
/-- the text begins otherwise -/
theorem ok_first {s : ByteArray} (h : ((s.extract 0 1).toList == [83]) = false ∨ s.size < 1) : okS s = false := by
  by_cases h0 : s.size < 1
  · apply bad_two
    unfold r2
    rw [oneS_no h0]
    rw [txtS_bad]
  · rcases h with h | h
    · unfold okS
      rw [oneS_yes h0]
      simp only
      rw [h]
      rfl
    · exact absurd h h0
theorem ok_text {s : ByteArray} {c : Int} (h0 : ¬ s.size < 1) (hT : T s 1 = .error c) : okS s = false := by
  apply bad_two
  unfold r2
  rw [oneS_yes h0]
  unfold txtS
  simp only [Bool.false_eq_true, if_false]
  rw [show ((1 : Nat) : Int) = 1 from rfl, hT]
theorem r2_yes {s t : ByteArray} {P : Nat} (h0 : ¬ s.size < 1) (hT : txtS s (1, false) = (t, (P, false))) : r2 s = (t, (P, false)) := by
  unfold r2
  rw [oneS_yes h0]
  exact hT
theorem ok_num {s t : ByteArray} {P : Nat} {c : Int} (h2 : r2 s = (t, (P, false))) (hG : G s (P : Int) = .error c) : okS s = false := by
  apply bad_last
  unfold r3
  rw [h2]
  unfold numS
  simp only [Bool.false_eq_true, if_false, hG]
theorem r3_yes {s t : ByteArray} {n : Int} {P Q : Nat} (h2 : r2 s = (t, (P, false))) (hN : numS s (P, false) = (n, (Q, false))) : r3 s = (n, (Q, false)) := by
  unfold r3
  rw [h2]
  exact hN
/-- all was read: what is left has to be the root -/
theorem ok_all {s t : ByteArray} {n : Int} {P Q : Nat} (h0 : ¬ s.size < 1) (hb : ((s.extract 0 1).toList == [83]) = true) (h2 : r2 s = (t, (P, false))) (h3 : r3 s = (n, (Q, false))) (hQ : Q ≤ s.size) :
    okS s = snapB t n (s.extract Q s.size) ∧ (okS s = true → (r4 s).1 = s.extract Q s.size) := by
  have hr1 : (r1 s).1 = s.extract 0 1 := by rw [oneS_yes h0]
  by_cases hlt : s.size < Q + 32
  · have e4 : (r4 s).2.2 = true := by
      unfold r4
      rw [h3]
      unfold bytS
      rw [if_pos (.inr hlt)]
    have hok : okS s = false := by unfold okS; rw [e4]; simp
    refine ⟨?_, fun h => by rw [hok] at h; cases h⟩
    rw [hok]
    symm
    unfold snapB
    have hz : decide (((s.extract Q s.size).size : Int) = 32) = false := by
      rw [decide_eq_false_iff_not, ByteArray.size_extract]
      omega
    rw [hz]
    simp
  · have e4 : r4 s = (s.extract Q (Q + 32), (Q + 32, false)) := by
      unfold r4
      rw [h3]
      unfold bytS
      rw [if_neg (by simp; omega)]
    by_cases he : Q + 32 = s.size
    · have hd : decide (((Q + 32 : Nat) : Int) = (s.size : Int)) = true := by rw [decide_eq_true_iff]; omega
      refine ⟨?_, fun _ => by rw [e4, he]⟩
      unfold okS
      rw [hr1, hb, e4, h2, h3]
      simp only
      rw [hd, he]
      simp
    · have hd : decide (((Q + 32 : Nat) : Int) = (s.size : Int)) = false := by rw [decide_eq_false_iff_not]; omega
      have hok : okS s = false := by
        unfold okS
        rw [e4]
        simp only
        rw [hd]
        simp
      refine ⟨?_, fun h => by rw [hok] at h; cases h⟩
      rw [hok]
      symm
      unfold snapB
      have hz : decide (((s.extract Q s.size).size : Int) = 32) = false := by
        rw [decide_eq_false_iff_not, ByteArray.size_extract]
        omega
      rw [hz]
      simp
/-- what SnapRead answers -/
def readA (s : ByteArray) : (ByteArray × Int × ByteArray) × Int :=
  if 20000 < s.size then ((⟨#[]⟩, 0, ⟨#[]⟩), 2) else if okS s = true then (((r2 s).1, (r3 s).1, (r4 s).1), 0) else ((⟨#[]⟩, 0, ⟨#[]⟩), 3)
def outV (r : (ByteArray × Int × ByteArray) × Int) : Value := .agg #[.string r.1.1, .int .i64 r.1.2.1, .string r.1.2.2, .int .i64 r.2]
end Go.Proofs.Ytlcdbkelonbcfaa.snp
