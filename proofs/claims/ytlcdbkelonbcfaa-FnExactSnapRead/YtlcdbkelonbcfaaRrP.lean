/-
  Reading places from a text, in plain words: what the specification reads, and that holding the bytes of what was read against the text tells the same. No condition.
-/
import Derived.Test.YtlcdbkelonbcfaaBtP
import Derived.Test.YtlcdbkelonbcfaaTextP
namespace Go.Proofs.Ytlcdbkelonbcfaa.plc
open Go.RowKit Go.Joins
open Go.Proofs.Ytlcdbkelonbcfaa.base Go.Proofs.Ytlcdbkelonbcfaa.blk Go.Proofs.Ytlcdbkelonbcfaa.aid
open Go.Proofs.Ytlcdbkelonbcfaa.num (G T G_pos)
set_option linter.unusedVariables false
set_option linter.unusedSimpArgs false

/-- a place and whether something was wrong -/
abbrev St : Type := Nat × Bool
def numS (s : ByteArray) (st : St) : Int × St := if st.2 = true then (0, st) else match G s st.1 with | .error _ => (0, (st.1, true)) | .ok (n, p) => (n, (p.toNat, false))
def txtS (s : ByteArray) (st : St) : ByteArray × St := if st.2 = true then (⟨#[]⟩, st) else match T s st.1 with | .error _ => (⟨#[]⟩, (st.1, true)) | .ok (t, p) => (t, (p.toNat, false))
def bytS (s : ByteArray) (st : St) : ByteArray × St := if st.2 = true ∨ s.size < st.1 + 32 then (⟨#[]⟩, (st.1, true)) else (s.extract st.1 (st.1 + 32), (st.1 + 32, false))
def placeS (s : ByteArray) (st : St) : Pl × St :=
  (((bytS s st).1, (txtS s (bytS s st).2).1, (numS s (txtS s (bytS s st).2).2).1, (numS s (numS s (txtS s (bytS s st).2).2).2).1, (numS s (numS s (numS s (txtS s (bytS s st).2).2).2).2).1), (numS s (numS s (numS s (txtS s (bytS s st).2).2).2).2).2)
def runS (s : ByteArray) : Nat → St → List Pl → List Pl × St
  | 0, st, l => (l, st)
  | n + 1, st, l => if st.2 = true then (l, st) else runS s n (placeS s st).2 (l ++ [(placeS s st).1])
/-- what PlacesRead answers -/
def fin (s : ByteArray) (r : List Pl × St) : List Pl × Int := if r.2.2 = true ∨ r.2.1 < s.size ∨ placesB r.1 = false then ([], 3) else (r.1, 0)
def readA (s : ByteArray) : List Pl × Int :=
  if 20000 < s.size then ([], 2) else fin s (runS s (numS s (0, false)).1.toNat ((numS s (0, false)).2.1, (numS s (0, false)).2.2 || decide ((numS s (0, false)).1 < 0) || decide (300 < (numS s (0, false)).1)) [])
theorem runS_bad (s : ByteArray) (n a : Nat) (l : List Pl) : runS s n (a, true) l = (l, (a, true)) := by
  cases n <;> simp [runS]
theorem runS_step (s : ByteArray) (n a : Nat) (l : List Pl) : runS s (n + 1) (a, false) l = runS s n (placeS s (a, false)).2 (l ++ [(placeS s (a, false)).1]) := by simp [runS]
theorem numS_bad (s : ByteArray) (a : Nat) : numS s (a, true) = (0, (a, true)) := by simp [numS]
theorem txtS_bad (s : ByteArray) (a : Nat) : txtS s (a, true) = (⟨#[]⟩, (a, true)) := by simp [txtS]
theorem numS_ok {s : ByteArray} {st : St} {n : Int} {q : Nat} (h : numS s st = (n, (q, false))) : st.2 = false ∧ G s st.1 = .ok (n, (q : Int)) ∧ st.1 < q ∧ q ≤ s.size ∧ (0 ≤ n → s.extract st.1 q = nbk.numB n) := by
  obtain ⟨a, f⟩ := st
  cases f with
  | true => rw [numS_bad] at h; cases h
  | false =>
    unfold numS at h
    simp only [Bool.false_eq_true, if_false] at h
    cases hG : G s (a : Int) with
    | error c => rw [hG] at h; cases h
    | ok r =>
      obtain ⟨n', p⟩ := r
      rw [hG] at h
      obtain ⟨P, rfl, h1, h2, h3⟩ := nbk.G_nat hG
      simp only [Prod.mk.injEq, and_true] at h
      obtain ⟨rfl, h4⟩ := h
      have e : P = q := by omega
      subst e
      exact ⟨rfl, rfl, h1, h2, h3⟩
theorem txtS_ok {s t : ByteArray} {st : St} {q : Nat} (h : txtS s st = (t, (q, false))) : st.2 = false ∧ T s st.1 = .ok (t, (q : Int)) ∧ st.1 ≤ q ∧ q ≤ s.size ∧ s.extract st.1 q = fnExactPutText.pre t.size ++ t := by
  obtain ⟨a, f⟩ := st
  cases f with
  | true => rw [txtS_bad] at h; cases h
  | false =>
    unfold txtS at h
    simp only [Bool.false_eq_true, if_false] at h
    cases hT : T s (a : Int) with
    | error c => rw [hT] at h; cases h
    | ok r =>
      obtain ⟨t', p⟩ := r
      rw [hT] at h
      simp only [Prod.mk.injEq, and_true] at h
      obtain ⟨rfl, h4⟩ := h
      have hT2 := hT
      unfold T at hT
      cases hG : G s (a : Int) with
      | error c => rw [hG] at hT; cases hT
      | ok r =>
        obtain ⟨n, p'⟩ := r
        rw [hG] at hT
        obtain ⟨P, rfl, h1, h2, h3⟩ := nbk.G_nat hG
        simp only at hT
        split at hT
        · cases hT
        · rename_i hn
          split at hT
          · cases hT
          · rename_i hp
            simp only [Except.ok.injEq, Prod.mk.injEq] at hT
            obtain ⟨e1, e2⟩ := hT
            have h0 : 0 ≤ n := by omega
            obtain ⟨N, rfl⟩ := Int.eq_ofNat_of_zero_le h0
            have e3 : q = P + N := by omega
            subst e3
            have e4 : ((P : Int) + (N : Int)).toNat = P + N := by omega
            have e5 : (P : Int).toNat = P := by omega
            rw [e4, e5] at e1
            have hsz : t'.size = N := by rw [← e1, ByteArray.size_extract]; omega
            have hpe : fnExactPutText.pre N = nbk.numB (N : Int) := by
              unfold fnExactPutText.pre nbk.numB
              simp
            refine ⟨rfl, by rw [← e2]; rfl, by omega, by omega, ?_⟩
            rw [hsz, hpe, ← h3 h0, ← e1]
            exact (nbk.cat s (by omega) (by omega)).symm
theorem bytS_ok {s k : ByteArray} {st : St} {q : Nat} (h : bytS s st = (k, (q, false))) : st.2 = false ∧ q = st.1 + 32 ∧ q ≤ s.size ∧ k = s.extract st.1 q := by
  unfold bytS at h
  split at h
  · cases h
  · rename_i hn
    rw [not_or] at hn
    simp only [Prod.mk.injEq, and_true] at h
    obtain ⟨h1, h2⟩ := h
    obtain ⟨a, f⟩ := st
    simp only at *
    cases f with
    | true => simp at hn
    | false => exact ⟨rfl, h2.symm, by omega, by rw [← h2]; exact h1.symm⟩
theorem placeS_ok {s : ByteArray} {st : St} {p : Pl} {q : Nat} (h : placeS s st = (p, (q, false))) : st.2 = false ∧ st.1 + 32 ≤ q ∧ q ≤ s.size ∧ p.1.size ≤ s.size ∧ p.2.1.size ≤ s.size ∧ (plB p = true → s.extract st.1 q = recP p) := by
  unfold placeS at h
  simp only [Prod.mk.injEq] at h
  obtain ⟨h0, h5⟩ := h
  obtain ⟨n3, z3⟩ : ∃ n3, numS s (numS s (numS s (txtS s (bytS s st).2).2).2).2 = (n3, (q, false)) := ⟨_, Prod.ext rfl h5⟩
  obtain ⟨b1, _, b2, b3, b4⟩ := numS_ok z3
  obtain ⟨n2, z2⟩ : ∃ n2, numS s (numS s (txtS s (bytS s st).2).2).2 = (n2, ((numS s (numS s (txtS s (bytS s st).2).2).2).2.1, false)) := ⟨_, Prod.ext rfl (Prod.ext rfl b1)⟩
  obtain ⟨c1, _, c2, c3, c4⟩ := numS_ok z2
  obtain ⟨n1, z1⟩ : ∃ n1, numS s (txtS s (bytS s st).2).2 = (n1, ((numS s (txtS s (bytS s st).2).2).2.1, false)) := ⟨_, Prod.ext rfl (Prod.ext rfl c1)⟩
  obtain ⟨d1, _, d2, d3, d4⟩ := numS_ok z1
  obtain ⟨t, zt⟩ : ∃ t, txtS s (bytS s st).2 = (t, ((txtS s (bytS s st).2).2.1, false)) := ⟨_, Prod.ext rfl (Prod.ext rfl d1)⟩
  obtain ⟨e1, _, e2, e3, e4⟩ := txtS_ok zt
  obtain ⟨k, zk⟩ : ∃ k, bytS s st = (k, ((bytS s st).2.1, false)) := ⟨_, Prod.ext rfl (Prod.ext rfl e1)⟩
  obtain ⟨f1, f2, f3, f4⟩ := bytS_ok zk
  have g3 := congrArg Prod.fst z3
  have g2 := congrArg Prod.fst z2
  have g1 := congrArg Prod.fst z1
  have gt := congrArg Prod.fst zt
  have gk := congrArg Prod.fst zk
  simp only at g3 g2 g1 gt gk
  rw [g3, g2, g1, gt, gk] at h0
  subst h0
  generalize hA : (bytS s st).2.1 = A at *
  generalize hB : (txtS s (bytS s st).2).2.1 = B at *
  generalize hC : (numS s (txtS s (bytS s st).2).2).2.1 = C at *
  generalize hD : (numS s (numS s (txtS s (bytS s st).2).2).2).2.1 = D at *
  refine ⟨f1, by omega, b3, by show k.size ≤ s.size; rw [f4, ByteArray.size_extract]; omega, ?_, fun hp => ?_⟩
  · have := congrArg ByteArray.size e4
    rw [ByteArray.size_extract, ByteArray.size_append] at this
    show t.size ≤ s.size
    omega
  · obtain ⟨_, _, p3, _, p5, _, p7, _⟩ := plB_small hp
    simp only at p3 p5 p7
    unfold recP
    simp only
    rw [f4, ← e4, ← d4 p3, ← c4 p5, ← b4 p7]
    rw [nbk.cat s (by omega) (by omega), nbk.cat s (by omega) (by omega), nbk.cat s (by omega) (by omega), nbk.cat s (by omega) (by omega)]
/-- what a run reads -/
theorem runS_ok (s : ByteArray) : ∀ (n a : Nat) (l r : List Pl) (q : Nat), runS s n (a, false) l = (r, (q, false)) → a ≤ s.size → ∃ m, r = l ++ m ∧ m.length = n ∧ a + 32 * n ≤ q ∧ q ≤ s.size ∧ (∀ p ∈ m, p.1.size ≤ s.size ∧ p.2.1.size ≤ s.size) ∧ ((∀ p ∈ m, plB p = true) → (s.extract a q).data.toList = recsP m)
  | 0, a, l, r, q, h, ha => by
    simp only [runS, Prod.mk.injEq, and_true] at h
    obtain ⟨rfl, rfl⟩ := h
    exact ⟨[], by simp, rfl, by omega, ha, by simp, fun _ => by simp [recsP]⟩
  | n + 1, a, l, r, q, h, ha => by
    rw [runS_step] at h
    cases hp : placeS s (a, false) with
    | mk p st =>
      obtain ⟨b, f⟩ := st
      rw [hp] at h
      simp only at h
      cases f with
      | true => rw [runS_bad] at h; cases h
      | false =>
        obtain ⟨_, h2, h3, h4, h5, h6⟩ := placeS_ok hp
        simp only at h2 h6
        obtain ⟨m, e1, e2, e3, e4, e5, e6⟩ := runS_ok s n b _ r q h h3
        refine ⟨p :: m, by rw [e1, List.append_assoc]; rfl, by simp [e2], by omega, e4, ?_, fun hm => ?_⟩
        · intro x hx
          rcases List.mem_cons.1 hx with rfl | hx
          · exact ⟨h4, h5⟩
          · exact e5 x hx
        · have h7 := h6 (hm p (by simp))
          have h8 := e6 (fun x hx => hm x (List.mem_cons_of_mem _ hx))
          rw [← nbk.cat s (show a ≤ b by omega) (show b ≤ q by omega), app_list, h8, h7]
          simp [recsP]
/-- what the program tells: nothing, or places whose bytes are the text -/
def implR (s : ByteArray) : Option (List Pl) :=
  match G s 0 with
  | .error _ => none
  | .ok (n, p) => if (runS s n.toNat (p.toNat, false) []).2.2 = true then none else if bytesP (runS s n.toNat (p.toNat, false) []).1 = s then some (runS s n.toNat (p.toNat, false) []).1 else none
def outA (o : Option (List Pl)) : List Pl × Int := match o with | none => ([], 3) | some l => (l, 0)
theorem eq_of_list {a b : ByteArray} (h : a.data.toList = b.data.toList) : a = b := ByteArray.ext (Array.toList_inj.1 h)
theorem agree (s : ByteArray) (hs : s.size ≤ 20000) : readA s = outA (implR s) := by
  unfold readA
  rw [if_neg (by omega)]
  unfold implR
  cases hG : G s 0 with
  | error c =>
    have e : numS s (0, false) = (0, (0, true)) := by
      unfold numS
      have : G s ((0 : Nat) : Int) = .error c := hG
      simp only [Bool.false_eq_true, if_false, this]
    simp only [e, Bool.true_or]
    rw [runS_bad]
    simp [fin, outA]
  | ok r =>
    obtain ⟨n, p⟩ := r
    have hG' : G s ((0 : Nat) : Int) = .ok (n, p) := hG
    have e : numS s (0, false) = (n, (p.toNat, false)) := by
      unfold numS
      simp only [Bool.false_eq_true, if_false, hG']
    obtain ⟨P, rfl, h1, h2, h3⟩ := nbk.G_nat hG'
    simp only [e, Bool.false_or]
    have eP : (P : Int).toNat = P := by omega
    rw [eP]
    by_cases hb : n < 0 ∨ 300 < n
    · have hb2 : (decide (n < 0) || decide (300 < n)) = true := by simpa using hb
      rw [hb2, runS_bad]
      have : (fin s ([], (P, true))) = ([], 3) := by simp [fin]
      rw [this]
      split
      · rfl
      · rename_i hf
        have hne : ¬ bytesP (runS s n.toNat (P, false) []).1 = s := by
          intro hbs
          cases hr : runS s n.toNat (P, false) [] with
          | mk r st =>
            obtain ⟨q, f⟩ := st
            rw [hr] at hf hbs
            simp only at hf hbs
            cases f with
            | true => exact absurd rfl hf
            | false =>
              obtain ⟨m, e1, e2, _⟩ := runS_ok s n.toNat P [] r q hr h2
              simp at e1
              subst e1
              rcases hb with hb | hb
              · have h0 : r = [] := List.eq_nil_of_length_eq_zero (by omega)
                subst h0
                have hs0 : s = ⟨#[0]⟩ := by
                  rw [← hbs]
                  decide +kernel
                have : G (⟨#[0]⟩ : ByteArray) 0 = .ok (0, 1) := by rfl
                rw [hs0, this] at hG
                simp only [Except.ok.injEq, Prod.mk.injEq] at hG
                omega
              · have hno : placesB r = false := by
                  cases hp : placesB r with
                  | false => rfl
                  | true => have := ((placesB_iff r).1 hp).1; omega
                unfold bytesP at hbs
                rw [if_neg (by rw [hno]; simp)] at hbs
                have := congrArg ByteArray.size hbs
                have h0 : (⟨#[]⟩ : ByteArray).size = 0 := rfl
                rw [h0] at this
                omega
        rw [if_neg hne]
        rfl
    · have hb2 : (decide (n < 0) || decide (300 < n)) = false := by simpa using hb
      rw [hb2]
      cases hr : runS s n.toNat (P, false) [] with
      | mk r st =>
        obtain ⟨q, f⟩ := st
        cases f with
        | true => simp [fin, outA]
        | false =>
          obtain ⟨m, e1, e2, e3, e4, _, e6⟩ := runS_ok s n.toNat P [] r q hr h2
          simp at e1
          subst e1
          have hn : n = (r.length : Int) := by omega
          have key : placesB r = true → bytesP r = s.extract 0 q := fun hp => by
            have h5 := e6 ((placesB_iff r).1 hp).2.2
            have h6 := h3 (by omega)
            unfold bytesP
            rw [if_pos hp]
            apply eq_of_list
            rw [← nbk.cat s (Nat.zero_le P) (show P ≤ q by omega), app_list, h5, h6, hn]
            simp [bytesL]
          simp only [fin, Bool.false_eq_true, false_or, if_false]
          by_cases hp : placesB r = true
          · have hk := key hp
            by_cases hq : q < s.size
            · have hne : ¬ bytesP r = s := by
                intro hbs
                rw [hk] at hbs
                have := congrArg ByteArray.size hbs
                rw [ByteArray.size_extract] at this
                omega
              rw [if_pos (.inl hq), if_neg hne]
              rfl
            · have hqs : q = s.size := by omega
              have hbs : bytesP r = s := by
                rw [hk, hqs]
                apply eq_of_list
                simp
              rw [if_neg (by rw [hp]; simp; omega), if_pos hbs]
              rfl
          · have hp2 : placesB r = false := by simpa using hp
            have hne : ¬ bytesP r = s := by
              intro hbs
              unfold bytesP at hbs
              rw [if_neg hp] at hbs
              have := congrArg ByteArray.size hbs
              have h0 : (⟨#[]⟩ : ByteArray).size = 0 := rfl
              rw [h0] at this
              omega
            rw [if_pos (.inr hp2), if_neg hne]
            rfl
theorem readA_small (s : ByteArray) : (readA s).1.length ≤ 300 := by
  unfold readA
  split
  · simp
  · unfold fin
    split
    · simp
    · rename_i h
      simp only [not_or] at h
      have := h.2.2
      simp only [Bool.not_eq_false] at this
      exact ((placesB_iff _).1 this).1
end Go.Proofs.Ytlcdbkelonbcfaa.plc
