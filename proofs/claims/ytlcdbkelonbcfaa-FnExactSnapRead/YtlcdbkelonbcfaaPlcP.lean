/-
  Places in plain words: what is right, what comes first, what is put in; sorting those of which no two stand at one spot gives what putting them in one by one gives. No condition.
-/
import Derived.Test.YtlcdbkelonbcfaaOrdP
import Derived.Test.YtlcdbkelonbcfaaObjA
import Derived.Test.YtlcdbkelonbcfaaRwPlace
namespace Go.Proofs.Ytlcdbkelonbcfaa.plc
open Go.RowKit Go.Joins
open Go.Proofs.Ytlcdbkelonbcfaa.ord
open Go.Proofs.Ytlcdbkelonbcfaa.obj (objB objB_small)
set_option linter.unusedVariables false
set_option linter.unusedSimpArgs false

abbrev Pl : Type := ByteArray × ByteArray × Int × Int × Int
/-- where it stands: key and pack -/
abbrev sp (p : Pl) : ByteArray × ByteArray := (p.1, p.2.1)
def lessS (a b : ByteArray × ByteArray) : Bool := blt a.1 b.1 || (decide (a.1 = b.1) && blt a.2 b.2)
def lessP (a b : Pl) : Bool := lessS (sp a) (sp b)
/-- what comparePlaces tells -/
def cmpP (a b : Pl) : Int := if cmpB a.1 b.1 = 0 then cmpB a.2.1 b.2.1 else cmpB a.1 b.1
theorem cmpP_neg (a b : Pl) : cmpP a b < 0 ↔ lessP a b = true := by
  unfold cmpP lessP lessS
  by_cases h : cmpB a.1 b.1 = 0
  · rw [if_pos h, cmpB_neg]
    have he := (cmpB_zero _ _).1 h
    have hf : blt a.1 b.1 = false := by rw [he]; exact blt_irr _
    simp [sp, he, hf, blt_irr]
  · rw [if_neg h, cmpB_neg]
    have he : ¬ a.1 = b.1 := fun e => h ((cmpB_zero _ _).2 e)
    simp [sp, he]
theorem cmpP_nonneg (a b : Pl) : (0 ≤ cmpP a b) ↔ lessP a b = false := by
  constructor
  · intro h
    cases hl : lessP a b with
    | false => rfl
    | true => have := (cmpP_neg a b).2 hl; omega
  · intro h
    by_cases h0 : cmpP a b < 0
    · rw [(cmpP_neg a b).1 h0] at h; cases h
    · omega
theorem lessS_irr (a : ByteArray × ByteArray) : lessS a a = false := by simp [lessS, blt_irr]
theorem lessS_trans {a b c : ByteArray × ByteArray} (h1 : lessS a b = true) (h2 : lessS b c = true) : lessS a c = true := by
  unfold lessS at *
  rw [Bool.or_eq_true, Bool.and_eq_true, decide_eq_true_eq] at *
  rcases h1 with h1 | ⟨e1, h1⟩
  · rcases h2 with h2 | ⟨e2, h2⟩
    · exact .inl (blt_trans h1 h2)
    · exact .inl (by rw [← e2]; exact h1)
  · rcases h2 with h2 | ⟨e2, h2⟩
    · exact .inl (by rw [e1]; exact h2)
    · exact .inr ⟨e1.trans e2, blt_trans h1 h2⟩
theorem lessS_total {a b : ByteArray × ByteArray} (h : lessS a b = false) (hne : a ≠ b) : lessS b a = true := by
  unfold lessS at *
  rw [Bool.or_eq_false_iff] at h
  rw [Bool.or_eq_true, Bool.and_eq_true, decide_eq_true_eq]
  by_cases e : a.1 = b.1
  · refine .inr ⟨e.symm, blt_total ?_ (fun e2 => hne (Prod.ext e e2))⟩
    have := h.2
    simpa [e] using this
  · exact .inl (blt_total h.1 e)
theorem lessS_asy {a b : ByteArray × ByteArray} (h1 : lessS a b = true) (h2 : lessS b a = true) : False := by
  have h := lessS_trans h1 h2
  rw [lessS_irr] at h
  cases h

/-- a place is right -/
def plB (p : Pl) : Bool := decide (p.1.size = 32) && objB p.2.1 && (decide (p.2.2.1 = 1) || decide (p.2.2.1 = 2)) && (decide (0 ≤ p.2.2.2.1) && decide (p.2.2.2.1 ≤ 12000)) && (decide (0 ≤ p.2.2.2.2) && decide (p.2.2.2.2 ≤ 2000))
/-- one behind the one ahead of it -/
def aft (q : Option Pl) (p : Pl) : Bool := match q with | none => true | some g => lessP g p
def plsB : Option Pl → List Pl → Bool
  | _, [] => true
  | q, p :: r => plB p && aft q p && plsB (some p) r
def placesB (l : List Pl) : Bool := decide (l.length ≤ 300) && plsB none l
/-- rising -/
def Rising (l : List Pl) : Prop := l.Pairwise (fun a b => lessP a b = true)
theorem plsB_rising : ∀ (q : Option Pl) (l : List Pl), plsB q l = true → Rising l ∧ (∀ g, q = some g → ∀ p ∈ l, lessP g p = true) ∧ ∀ p ∈ l, plB p = true
  | q, [], h => ⟨.nil, by simp, by simp⟩
  | q, p :: r, h => by
    rw [plsB, Bool.and_eq_true, Bool.and_eq_true] at h
    obtain ⟨h1, h2, h3⟩ := plsB_rising (some p) r h.2
    have h4 := h2 p rfl
    refine ⟨List.pairwise_cons.2 ⟨h4, h1⟩, ?_, ?_⟩
    · intro g e x hx
      subst e
      have hg : lessP g p = true := h.1.2
      rcases List.mem_cons.1 hx with rfl | hx
      · exact hg
      · exact lessS_trans hg (h4 x hx)
    · intro x hx
      rcases List.mem_cons.1 hx with rfl | hx
      · exact h.1.1
      · exact h3 x hx
theorem plsB_of : ∀ (q : Option Pl) (l : List Pl), Rising l → (∀ p ∈ l, plB p = true) → (∀ p, l.head? = some p → aft q p = true) → plsB q l = true
  | q, [], _, _, _ => rfl
  | q, p :: r, h1, h2, h3 => by
    unfold Rising at h1
    rw [List.pairwise_cons] at h1
    rw [plsB, h2 p (by simp), h3 p rfl, plsB_of (some p) r h1.2 (fun x hx => h2 x (List.mem_cons_of_mem _ hx)) (fun x hx => h1.1 x (List.mem_of_mem_head? hx))]
    rfl
theorem placesB_iff (l : List Pl) : placesB l = true ↔ l.length ≤ 300 ∧ Rising l ∧ ∀ p ∈ l, plB p = true := by
  unfold placesB
  rw [Bool.and_eq_true, decide_eq_true_eq]
  constructor
  · rintro ⟨h1, h2⟩
    obtain ⟨a, _, b⟩ := plsB_rising _ _ h2
    exact ⟨h1, a, b⟩
  · rintro ⟨h1, h2, h3⟩
    exact ⟨h1, plsB_of none l h2 h3 (fun _ _ => rfl)⟩

/-- the first of a list that is not less -/
def spot (n : Pl) : List Pl → Nat → Nat
  | [], i => i
  | f :: r, i => if lessP f n = true then spot n r (i + 1) else i
theorem spot_step (l : List Pl) (n : Pl) (i : Nat) (f : Pl) (h : l[i]? = some f) : spot n (l.drop i) i = if lessP f n = true then spot n (l.drop (i + 1)) (i + 1) else i := by
  have hlt := (List.getElem?_eq_some_iff.1 h).1
  have e : l.drop i = f :: l.drop (i + 1) := by rw [List.drop_eq_getElem_cons hlt, (List.getElem?_eq_some_iff.1 h).2]
  rw [e, spot]
theorem spot_is (n : Pl) : ∀ (l : List Pl) (i : Nat), i ≤ spot n l i ∧ spot n l i ≤ i + l.length ∧ (∀ f ∈ l.take (spot n l i - i), lessP f n = true) ∧ (∀ f, (l.drop (spot n l i - i)).head? = some f → lessP f n = false)
  | [], i => by simp [spot]
  | f :: r, i => by
    unfold spot
    split
    · rename_i h
      obtain ⟨h1, h2, h3, h4⟩ := spot_is n r (i + 1)
      have e : spot n r (i + 1) - i = (spot n r (i + 1) - (i + 1)) + 1 := by omega
      refine ⟨by omega, by simp; omega, ?_, ?_⟩
      · rw [e, List.take_succ_cons]
        intro g hg
        rcases List.mem_cons.1 hg with rfl | hg
        · exact h
        · exact h3 g hg
      · rw [e, List.drop_succ_cons]
        exact h4
    · rename_i h
      refine ⟨Nat.le_refl _, by simp, by simp, ?_⟩
      intro g hg
      simp at hg
      subst hg
      simpa using h
/-- put into a rising list; one that is there stays -/
def put (l : List Pl) (x : Pl) : List Pl :=
  match l[spot x l 0]? with
  | some f => if lessP x f = true then l.take (spot x l 0) ++ [x] ++ l.drop (spot x l 0) else l
  | none => l.take (spot x l 0) ++ [x] ++ l.drop (spot x l 0)
theorem put_len (l : List Pl) (x : Pl) : (put l x).length ≤ l.length + 1 := by
  unfold put
  split
  · split
    · simp; omega
    · omega
  · simp; omega
theorem put_cases {l : List Pl} (x : Pl) (h : Rising l) : (put l x = l ∧ sp x ∈ l.map sp) ∨ (put l x = l.take (spot x l 0) ++ [x] ++ l.drop (spot x l 0) ∧ Rising (put l x) ∧ sp x ∉ l.map sp) := by
  obtain ⟨_, h2, h3, h4⟩ := spot_is x l 0
  simp only [Nat.sub_zero, Nat.zero_add] at h2 h3 h4
  have hcat : l = l.take (spot x l 0) ++ l.drop (spot x l 0) := (List.take_append_drop _ _).symm
  have hins : (∀ f ∈ l.drop (spot x l 0), lessP x f = true) → Rising (l.take (spot x l 0) ++ [x] ++ l.drop (spot x l 0)) ∧ sp x ∉ l.map sp := by
    intro hd
    constructor
    · unfold Rising at *
      rw [hcat, List.pairwise_append] at h
      rw [List.append_assoc, List.pairwise_append]
      refine ⟨h.1, ?_, ?_⟩
      · rw [List.singleton_append, List.pairwise_cons]
        exact ⟨hd, h.2.1⟩
      · intro a ha b hb
        rcases List.mem_cons.1 hb with rfl | hb
        · exact h3 a ha
        · exact h.2.2 a ha b hb
    · intro hm
      obtain ⟨f, hf, e⟩ := List.mem_map.1 hm
      rw [hcat] at hf
      rcases List.mem_append.1 hf with hf | hf
      · have := h3 f hf
        unfold lessP at this
        rw [e, lessS_irr] at this
        cases this
      · have := hd f hf
        unfold lessP at this
        rw [e, lessS_irr] at this
        cases this
  cases hg : l[spot x l 0]? with
  | none =>
    have hd : l.drop (spot x l 0) = [] := List.drop_of_length_le (List.getElem?_eq_none_iff.1 hg)
    obtain ⟨r1, r2⟩ := hins (by rw [hd]; simp)
    have e : put l x = l.take (spot x l 0) ++ [x] ++ l.drop (spot x l 0) := by unfold put; rw [hg]
    exact .inr ⟨e, by rw [e]; exact r1, r2⟩
  | some f =>
    have hlt := (List.getElem?_eq_some_iff.1 hg).1
    have hd : l.drop (spot x l 0) = f :: l.drop (spot x l 0 + 1) := by rw [List.drop_eq_getElem_cons hlt, (List.getElem?_eq_some_iff.1 hg).2]
    have hnf : lessP f x = false := h4 f (by rw [hd]; rfl)
    cases hx : lessP x f with
    | true =>
      have e : put l x = l.take (spot x l 0) ++ [x] ++ l.drop (spot x l 0) := by unfold put; rw [hg]; simp only [hx, if_true]
      have hr : ∀ g ∈ l.drop (spot x l 0), lessP x g = true := by
        intro g hgm
        rw [hd] at hgm
        rcases List.mem_cons.1 hgm with rfl | hgm
        · exact hx
        · have h5 : (l.drop (spot x l 0)).Pairwise (fun a b => lessP a b = true) := h.sublist (List.drop_sublist _ _)
          rw [hd, List.pairwise_cons] at h5
          exact lessS_trans hx (h5.1 g hgm)
      obtain ⟨r1, r2⟩ := hins hr
      exact .inr ⟨e, by rw [e]; exact r1, r2⟩
    | false =>
      have e : put l x = l := by unfold put; rw [hg]; simp only [hx]; rfl
      refine .inl ⟨e, List.mem_map.2 ⟨f, List.mem_of_getElem? hg, ?_⟩⟩
      by_cases hne : sp f = sp x
      · exact hne
      · have := lessS_total (a := sp f) (b := sp x) hnf hne
        unfold lessP at hx
        rw [hx] at this
        cases this
/-- the first of each spot, as they come -/
def hasS (acc : List Pl) (x : ByteArray × ByteArray) : Bool := acc.any (fun y => decide (y.1 = x.1) && decide (y.2.1 = x.2))
theorem hasS_iff (acc : List Pl) (x : ByteArray × ByteArray) : hasS acc x = true ↔ x ∈ acc.map sp := by
  unfold hasS
  rw [List.any_eq_true, List.mem_map]
  constructor
  · rintro ⟨y, hy, h⟩
    rw [Bool.and_eq_true, decide_eq_true_eq, decide_eq_true_eq] at h
    exact ⟨y, hy, Prod.ext h.1 h.2⟩
  · rintro ⟨y, hy, h⟩
    refine ⟨y, hy, ?_⟩
    rw [← h]
    simp
theorem hasS_not (acc : List Pl) (x : ByteArray × ByteArray) : hasS acc x = false ↔ x ∉ acc.map sp := by
  rw [← hasS_iff]
  simp
def fst1 (acc : List Pl) (x : Pl) : List Pl := if hasS acc (sp x) = true then acc else acc ++ [x]
theorem fst1_yes {acc : List Pl} {x : Pl} (h : sp x ∈ acc.map sp) : fst1 acc x = acc := by unfold fst1; rw [if_pos ((hasS_iff _ _).2 h)]
theorem fst1_no {acc : List Pl} {x : Pl} (h : sp x ∉ acc.map sp) : fst1 acc x = acc ++ [x] := by unfold fst1; rw [if_neg (fun q => h ((hasS_iff _ _).1 q))]
def firsts (l : List Pl) : List Pl := l.foldl fst1 []
theorem firsts_snoc (l : List Pl) (x : Pl) : firsts (l ++ [x]) = fst1 (firsts l) x := by simp [firsts, List.foldl_append]
theorem fst1_len (acc : List Pl) (x : Pl) : (fst1 acc x).length ≤ acc.length + 1 := by
  unfold fst1
  split
  · omega
  · simp
theorem foldl_len : ∀ (l acc : List Pl), (l.foldl fst1 acc).length ≤ acc.length + l.length
  | [], acc => by simp
  | x :: l, acc => by
    have h := foldl_len l (fst1 acc x)
    have h2 := fst1_len acc x
    simp only [List.foldl_cons, List.length_cons]
    omega
theorem firsts_len (l : List Pl) : (firsts l).length ≤ l.length := by simpa [firsts] using foldl_len l []
def Apart (l : List Pl) : Prop := (l.map sp).Nodup
theorem fst1_apart {acc : List Pl} (h : Apart acc) (x : Pl) : Apart (fst1 acc x) := by
  unfold fst1
  split
  · exact h
  · rename_i hn
    unfold Apart at *
    rw [List.map_append, List.nodup_append]
    refine ⟨h, by simp, ?_⟩
    intro a ha b hb e
    simp at hb
    subst hb
    subst e
    exact hn ((hasS_iff _ _).2 ha)
theorem foldl_apart : ∀ (l acc : List Pl), Apart acc → Apart (l.foldl fst1 acc)
  | [], acc, h => h
  | x :: l, acc, h => foldl_apart l _ (fst1_apart h x)
theorem firsts_apart (l : List Pl) : Apart (firsts l) := foldl_apart l [] (by simp [Apart])
theorem rising_apart {l : List Pl} (h : Rising l) : Apart l := by
  unfold Apart List.Nodup
  rw [List.pairwise_map]
  refine h.imp (fun {a b} hl e => ?_)
  unfold lessP at hl
  rw [e, lessS_irr] at hl
  cases hl
theorem foldl_same : ∀ (l acc : List Pl), Apart (acc ++ l) → l.foldl fst1 acc = acc ++ l
  | [], acc, _ => by simp
  | x :: l, acc, h => by
    have hx : sp x ∉ acc.map sp := by
      unfold Apart at h
      rw [List.map_append, List.nodup_append] at h
      intro hm
      exact h.2.2 _ hm _ (by simp) rfl
    have e : fst1 acc x = acc ++ [x] := fst1_no hx
    rw [List.foldl_cons, e, foldl_same l _ (by rw [List.append_assoc]; exact h), List.append_assoc]
    rfl
theorem firsts_same {l : List Pl} (h : Apart l) : firsts l = l := by
  have := foldl_same l [] (by simpa using h)
  simpa [firsts] using this
/-- put in one by one: rising, and the first of each spot -/
theorem puts_is : ∀ (l acc m : List Pl), Rising acc → acc.Perm m → Rising (l.foldl put acc) ∧ (l.foldl put acc).Perm (l.foldl fst1 m)
  | [], acc, m, h, hp => ⟨h, hp⟩
  | x :: l, acc, m, h, hp => by
    have hmem : sp x ∈ acc.map sp ↔ sp x ∈ m.map sp := (hp.map sp).mem_iff
    rcases put_cases x h with ⟨e, hm⟩ | ⟨e, hr, hm⟩
    · have e2 : fst1 m x = m := fst1_yes (hmem.1 hm)
      rw [List.foldl_cons, List.foldl_cons, e, e2]
      exact puts_is l acc m h hp
    · have e2 : fst1 m x = m ++ [x] := fst1_no (fun q => hm (hmem.2 q))
      rw [List.foldl_cons, List.foldl_cons, e2]
      refine puts_is l _ _ hr ?_
      rw [e]
      have p1 : (acc.take (spot x acc 0) ++ [x] ++ acc.drop (spot x acc 0)).Perm (x :: acc) := by
        have h1 : (acc.take (spot x acc 0) ++ [x] ++ acc.drop (spot x acc 0)).Perm (x :: (acc.take (spot x acc 0) ++ acc.drop (spot x acc 0))) := by
          rw [List.append_assoc]
          exact List.perm_middle
        rw [List.take_append_drop] at h1
        exact h1
      exact p1.trans ((hp.cons x).trans (List.perm_append_singleton x m).symm)
/-- rising lists of the same places are the same -/
theorem rising_uniq {a b : List Pl} (ha : Rising a) (hb : Rising b) (hp : a.Perm b) : a = b :=
  uniq (lt := fun a b => lessP a b = true) (fun x h => by unfold lessP at h; rw [lessS_irr] at h; cases h) (fun x y h1 h2 => lessS_asy h1 h2) a b ha hb (fun x => hp.mem_iff)
theorem sorted_rising {l : List Pl} (h : Apart l) (hs : l.Pairwise (fun a b => lessP b a = false)) : Rising l := by
  unfold Apart List.Nodup at h
  rw [List.pairwise_map] at h
  unfold Rising
  refine (h.and hs).imp (fun {a b} ⟨hne, hl⟩ => ?_)
  exact lessS_total hl (fun e => hne e.symm)
/-- sorted, they are what putting in one by one gives -/
theorem sorted_is {l d : List Pl} (hp : d.Perm (firsts l)) (hs : d.Pairwise (fun a b => lessP b a = false)) : d = l.foldl put [] := by
  have ha : Apart d := by
    unfold Apart
    exact (hp.map sp).nodup_iff.2 (firsts_apart l)
  obtain ⟨h1, h2⟩ := puts_is l [] [] .nil (List.Perm.refl _)
  exact rising_uniq (sorted_rising ha hs) h1 (hp.trans h2.symm)
theorem puts_rising (l : List Pl) : Rising (l.foldl put []) := (puts_is l [] [] .nil (List.Perm.refl _)).1
theorem puts_self {l : List Pl} (h : Rising l) : l.foldl put [] = l := by
  obtain ⟨h1, h2⟩ := puts_is l [] [] .nil (List.Perm.refl _)
  have e : l.foldl fst1 [] = l := firsts_same (rising_apart h)
  rw [e] at h2
  exact rising_uniq h1 h h2
theorem puts_len (l : List Pl) : (l.foldl put []).length = (firsts l).length := (puts_is l [] [] .nil (List.Perm.refl _)).2.length_eq
end Go.Proofs.Ytlcdbkelonbcfaa.plc
