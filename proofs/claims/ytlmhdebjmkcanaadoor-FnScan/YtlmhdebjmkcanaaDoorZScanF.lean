/-
  Plain facts: a pack's bytes, behind bytes among which no 66 is, are scanned whole: an entry for each blob, by which it is got. No condition.
-/
import Derived.Test.YtlmhdebjmkcanaaDoorZPackA
import Derived.Test.YtlmhdebjmkcanaaDoorZGetA
namespace Go.Proofs.YtlmhdebjmkcanaaDoor.packf
open Go.RowKit
open Go.Proofs.YtlmhdebjmkcanaaDoor.base Go.Proofs.YtlmhdebjmkcanaaDoor.pack
set_option linter.unusedVariables false

theorem scan_skip (s : ByteArray) (n : Nat) (hn : n ≤ s.size) (h : ∀ i, i < n → s.data.toList[i]? ≠ some 66) : ∀ k, k ≤ n → scan s 0 = scan s k
  | 0, _ => rfl
  | k + 1, hk => by
    rw [scan_skip s n hn h k (by omega)]
    exact scan_no (by omega) (rec_mark (h k (by omega)))
/-- each blob has its entry -/
def Ents (s : ByteArray) (es : List (ByteArray × Int × Int × Int)) (l : List (Int × ByteArray)) : Prop :=
  es.length = l.length ∧ ∀ (i : Nat) (b : Int × ByteArray), l[i]? = some b → ∃ q : Nat, es[i]? = some (bKey b, b.1, (q : Int), (b.2.size : Int)) ∧ q + b.2.size ≤ s.size ∧ b.2.size ≤ 2000 ∧ getP s (bKey b) b.1 (q : Int) (b.2.size : Int) = (b.1, b.2, 0)
theorem get_told {s : ByteArray} {b : Int × ByteArray} {q : Nat} (hs : s.size ≤ 20000) (hb : bRight b = true) (hq : q + b.2.size ≤ s.size) (he : s.extract q (q + b.2.size) = b.2) : getP s (bKey b) b.1 (q : Int) (b.2.size : Int) = (b.1, b.2, 0) := by
  have h2 := (bRight_parts hb).2
  unfold getP
  rw [if_neg (by omega), if_neg (by omega)]
  simp only [Int.toNat_natCast]
  rw [he, if_pos ⟨hb, rfl⟩]
theorem scan_recs (s : ByteArray) (hs : s.size ≤ 20000) : ∀ (l : List (Int × ByteArray)) (a : Nat), (∀ b ∈ l, bRight b = true) → s.data.toList.drop a = recsL l → Ents s (scan s a) l
  | [], a, _, h => by
    have ha : s.size ≤ a := by
      have := congrArg List.length h
      rw [List.length_drop, len_list] at this
      simp [recsL] at this
      omega
    rw [scan_end ha]
    exact ⟨rfl, fun i b hb => by simp at hb⟩
  | b :: r, a, hr, h => by
    have e : recsL (b :: r) = recL b ++ recsL r := by simp [recsL]
    rw [e] at h
    have hb := hr b (List.mem_cons_self ..)
    obtain ⟨q, h1, h2, h3, h4⟩ := rec_fwd hs hb h
    have hlen := congrArg List.length h
    rw [List.length_drop, len_list, List.length_append] at hlen
    have hlt : a < s.size := by
      have : 0 < (recL b).length := by rw [recL_eq]; simp
      omega
    have ih := scan_recs s hs r (a + (recL b).length) (fun x hx => hr x (List.mem_cons_of_mem _ hx)) (drop_split h)
    have hsc := scan_yes hlt h1
    rw [h2, h4] at hsc
    rw [hsc]
    refine ⟨by simp [ih.1], ?_⟩
    intro i c hc
    cases i with
    | zero =>
      simp at hc
      subst hc
      exact ⟨q, rfl, by omega, (bRight_parts hb).2, get_told hs hb (by omega) h3⟩
    | succ i => exact ih.2 i c (by simpa using hc)

/-- bytes among which no 66 is -/
def No66 (xs : List UInt8) : Prop := ∀ i : Nat, xs[i]? ≠ some 66
theorem No66.nil : No66 [] := fun i => by simp
theorem No66.snoc {xs : List UInt8} {c : UInt8} (h : No66 xs) (hc : c ≠ 66) : No66 (xs ++ [c]) := by
  intro i
  rw [List.getElem?_append]
  split
  · exact h i
  · intro e
    obtain ⟨_, e2⟩ := List.getElem?_eq_some_iff.1 e
    simp at e2
    exact hc e2
/-- what is scanned of a pack behind such bytes -/
theorem scan_pack {x : ByteArray} {l : List (Int × ByteArray)} (hx : No66 x.data.toList) (hz : x.size ≤ 40) (h : packR l = true) : Ents (x ++ packB l) (scanT (x ++ packB l)) l := by
  have hp := packB_size l
  have hR := h
  simp only [packR, decide_eq_true_eq] at hR
  have e : (packB l).data.toList = recsL l := by
    unfold packB
    rw [if_pos h]
  have hsz : (x ++ packB l).size = x.size + (packB l).size := ByteArray.size_append
  have hD : (x ++ packB l).data.toList = x.data.toList ++ recsL l := by simp [e]
  unfold scanT
  rw [if_neg (by omega), scan_skip (x ++ packB l) x.size (by omega) (fun i hi => by
    rw [hD, List.getElem?_append, if_pos (by rw [len_list]; exact hi)]
    exact hx i) x.size (Nat.le_refl _)]
  exact scan_recs _ (by omega) l x.size hR.2.2.1 (by rw [hD, ← len_list x, List.drop_left])
/-- .. of such bytes alone -/
theorem scan_none {x : ByteArray} (hx : No66 x.data.toList) (hz : x.size ≤ 40) : scanT x = [] := by
  unfold scanT
  rw [if_neg (by omega), scan_skip x x.size (Nat.le_refl _) (fun i _ => hx i) x.size (Nat.le_refl _)]
  exact scan_end (Nat.le_refl _)
end Go.Proofs.YtlmhdebjmkcanaaDoor.packf
