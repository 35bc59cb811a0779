/-
  Sorting a row of texts and leaving out what comes again gives what putting its texts in one by one gives. No condition.
-/
import Derived.Test.YtlcdbkelonbcfaaNamS
import Derived.Lib.SlicesCompact
import Derived.Sort.EncStr
namespace Go.Proofs.Ytlcdbkelonbcfaa.nms
open Go.Proofs.Ytlcdbkelonbcfaa.drv (blt less_trans less_irr blt_trans blt_irr u8_lt toList_data)
open Go.Proofs.Ytlcdbkelonbcfaa.arr (Fl Dv val objB)
set_option linter.unusedVariables false

/-- two rising lists of the same things are the same -/
theorem uniq {α : Type} {lt : α → α → Prop} (irr : ∀ x, ¬ lt x x) (asy : ∀ x y, lt x y → lt y x → False) : ∀ (a b : List α), a.Pairwise lt → b.Pairwise lt → (∀ x, x ∈ a ↔ x ∈ b) → a = b
  | [], [], _, _, _ => rfl
  | [], y :: b, _, _, h => by have := (h y).2 (by simp); simp at this
  | x :: a, [], _, _, h => by have := (h x).1 (by simp); simp at this
  | x :: a, y :: b, ha, hb, h => by
    rw [List.pairwise_cons] at ha hb
    have hxy : x = y := by
      rcases List.mem_cons.1 ((h x).1 (by simp)) with e | e
      · exact e
      · rcases List.mem_cons.1 ((h y).2 (by simp)) with e2 | e2
        · exact e2.symm
        · exact absurd (hb.1 x e) (fun q => asy _ _ (ha.1 y e2) q)
    subst hxy
    rw [uniq irr asy a b ha.2 hb.2 (fun z => ⟨fun hz => by
      rcases List.mem_cons.1 ((h z).1 (List.mem_cons_of_mem _ hz)) with e | e
      · subst e; exact absurd (ha.1 z hz) (irr z)
      · exact e, fun hz => by
      rcases List.mem_cons.1 ((h z).2 (List.mem_cons_of_mem _ hz)) with e | e
      · subst e; exact absurd (hb.1 z hz) (irr z)
      · exact e⟩)]
abbrev Bs : Type := List UInt8
theorem less_total : ∀ xs ys : List UInt8, Op.bytesLess xs ys = false → xs ≠ ys → Op.bytesLess ys xs = true
  | [], [], _, h => absurd rfl h
  | [], b :: y, h, _ => by simp [Op.bytesLess] at h
  | a :: x, [], _, _ => rfl
  | a :: x, b :: y, h, hne => by
    rw [Op.bytesLess, Bool.or_eq_false_iff] at h
    rw [Op.bytesLess, Bool.or_eq_true]
    have h1 : ¬ a < b := by simpa using h.1
    by_cases hab : a = b
    · subst hab
      have h2 : Op.bytesLess x y = false := by simpa using h.2
      refine .inr ?_
      rw [less_total x y h2 (fun e => hne (by rw [e]))]
      simp
    · refine .inl ?_
      have h3 : b < a := by
        rw [u8_lt] at h1 ⊢
        have h4 : a.toNat ≠ b.toNat := fun e => hab (UInt8.toNat_inj.1 e)
        omega
      simpa using h3
theorem blt_total {a b : ByteArray} (h : blt a b = false) (hne : a ≠ b) : blt b a = true :=
  less_total _ _ h (fun e => hne (by rw [toList_data, toList_data] at e; exact ByteArray.ext (Array.toList_inj.1 e)))
def lt (x y : Bs) : Prop := Op.bytesLess x y = true
theorem lt_irr (x : Bs) : ¬ lt x x := by unfold lt; rw [less_irr]; simp
theorem lt_trans {x y z : Bs} (h1 : lt x y) (h2 : lt y z) : lt x z := less_trans _ _ _ h1 h2
theorem lt_asy (x y : Bs) (h1 : lt x y) (h2 : lt y x) : False := lt_irr x (lt_trans h1 h2)
theorem less_is : ∀ (x y : Bs), Op.bytesLess x y = decide (x < y)
  | [], [] => by simp [Op.bytesLess]
  | _ :: _, [] => by simp [Op.bytesLess]
  | [], _ :: _ => by simp [Op.bytesLess]
  | a :: x, b :: y => by
    rw [Op.bytesLess, less_is x y]
    simp only [List.cons_lt_cons_iff]
    by_cases h1 : a < b <;> by_cases h2 : a = b <;> by_cases h3 : x < y <;> simp [h1, h2, h3]
theorem le_is (x y : Bs) : decide (x ≤ y) = !Op.bytesLess y x := by
  rw [less_is]
  by_cases h : y < x
  · simp [h, ← List.not_lt]
  · simp [h, ← List.not_lt]
def le (x y : Bs) : Bool := !Op.bytesLess y x
theorem le_trans (x y z : Bs) (h1 : le x y = true) (h2 : le y z = true) : le x z = true := by
  unfold le at *
  rw [Bool.not_eq_true'] at *
  cases h : Op.bytesLess z x with
  | false => rfl
  | true =>
    by_cases e : x = y
    · subst e; rw [h] at h2; exact h2
    · have := lt_trans (x := z) (y := x) (z := y) h (less_total _ _ h1 (fun q => e q.symm))
      unfold lt at this
      rw [this] at h2
      exact h2
theorem le_total (x y : Bs) : (le x y || le y x) = true := by
  unfold le
  cases h1 : Op.bytesLess y x with
  | false => rfl
  | true =>
    cases h2 : Op.bytesLess x y with
    | false => rfl
    | true => exact absurd h2 (fun q => lt_asy x y q h1)
theorem lt_of_le {x y : Bs} (h : le x y = true) (hne : x ≠ y) : lt x y := by
  unfold le at h
  rw [Bool.not_eq_true'] at h
  exact less_total _ _ h (fun e => hne e.symm)
/-- what lies in a rising row behind another is not less -/
theorem at_le {zs : List Bs} (h : zs.Pairwise (fun x y => le x y = true)) {i j : Nat} (hij : i < j) (hj : j < zs.length) : le (zs.toArray[i]!) (zs.toArray[j]!) = true := by
  have h1 := List.pairwise_iff_getElem.1 h i j (by omega) hj hij
  rw [getElem!_pos zs.toArray i (by simp; omega), getElem!_pos zs.toArray j (by simpa using hj)]
  simpa using h1
theorem lt_le_trans {x y z : Bs} (h1 : lt x y) (h2 : le y z = true) : lt x z := by
  by_cases e : y = z
  · rw [← e]; exact h1
  · exact lt_trans h1 (lt_of_le h2 e)
theorem le_lt_trans {x y z : Bs} (h1 : le x y = true) (h2 : lt y z) : lt x z := by
  by_cases e : x = y
  · rw [e]; exact h2
  · exact lt_trans (lt_of_le h1 e) h2
theorem compact_rising {zs : List Bs} (h : zs.Pairwise (fun x y => le x y = true)) : (Lib.compact zs).Pairwise lt := by
  unfold Lib.compact Lib.compactUpTo
  rw [List.pairwise_map]
  have hr : ((List.range zs.length).filter (Lib.keeps zs.toArray)).Pairwise (· < ·) := List.pairwise_lt_range.sublist List.filter_sublist
  refine hr.imp_of_mem ?_
  intro i j hi hj hij
  rw [List.mem_filter, List.mem_range] at hi hj
  have hk := hj.2
  unfold Lib.keeps at hk
  rw [decide_eq_true_eq] at hk
  have hne : zs.toArray[j]! ≠ zs.toArray[j - 1]! := by
    rcases hk with e | e
    · omega
    · exact e
  have h1 : lt (zs.toArray[j - 1]!) (zs.toArray[j]!) := lt_of_le (at_le h (by omega) hj.1) (fun e => hne e.symm)
  by_cases e : i = j - 1
  · rw [e]; exact h1
  · exact le_lt_trans (at_le h (by omega) (by omega)) h1
theorem compact_mem (zs : List Bs) (x : Bs) : x ∈ Lib.compact zs ↔ x ∈ zs := by
  unfold Lib.compact Lib.compactUpTo
  rw [List.mem_map]
  constructor
  · rintro ⟨i, hi, rfl⟩
    rw [List.mem_filter, List.mem_range] at hi
    rw [getElem!_pos zs.toArray i (by simpa using hi.1)]
    simp
  · intro hx
    obtain ⟨i, hi, rfl⟩ := List.mem_iff_getElem.1 hx
    have e : zs[i] = zs.toArray[i]! := by rw [getElem!_pos zs.toArray i (by simpa using hi)]; simp
    rw [e]
    clear hx e
    induction i with
    | zero => exact ⟨0, by rw [List.mem_filter, List.mem_range]; exact ⟨hi, by simp [Lib.keeps]⟩, rfl⟩
    | succ i ih =>
      by_cases hk : Lib.keeps zs.toArray (i + 1) = true
      · exact ⟨i + 1, by rw [List.mem_filter, List.mem_range]; exact ⟨hi, hk⟩, rfl⟩
      · unfold Lib.keeps at hk
        rw [decide_eq_true_eq] at hk
        have e : zs.toArray[i + 1]! = zs.toArray[i]! := by
          rcases Classical.em (zs.toArray[i + 1]! = zs.toArray[i]!) with q | q
          · exact q
          · exact absurd (.inr (by simpa using q)) hk
        rw [e]
        exact ih (by omega)
/-- the bytes of texts -/
def bl (t : ByteArray) : Bs := t.data.toList
theorem bl_inj {a b : ByteArray} (h : bl a = bl b) : a = b := ByteArray.ext (Array.toList_inj.1 h)
theorem blt_bl (a b : ByteArray) : blt a b = Op.bytesLess (bl a) (bl b) := by unfold blt bl; rw [toList_data, toList_data]
theorem spot_add (t : ByteArray) : ∀ (l : List ByteArray) (i : Nat), spot t l i = i + spot t l 0
  | [], i => by simp [spot]
  | x :: r, i => by
    unfold spot
    split
    · rw [spot_add t r (i + 1), spot_add t r (0 + 1)]; omega
    · omega
theorem put_less (x t : ByteArray) (r : List ByteArray) (h : blt x t = true) : put (x :: r) t = x :: put r t := by
  have e : spot t (x :: r) 0 = spot t r 0 + 1 := by rw [spot, if_pos h, spot_add]; omega
  unfold put
  rw [e, List.getElem?_cons_succ]
  split
  · rfl
  · simp
theorem put_same (t : ByteArray) (r : List ByteArray) : put (t :: r) t = t :: r := by
  have e : spot t (t :: r) 0 = 0 := by rw [spot, if_neg (by rw [blt_irr]; simp)]
  unfold put
  rw [e]
  simp
theorem put_more (x t : ByteArray) (r : List ByteArray) (h : blt x t = false) (hne : x ≠ t) : put (x :: r) t = t :: x :: r := by
  have e : spot t (x :: r) 0 = 0 := by rw [spot, if_neg (by rw [h]; simp)]
  unfold put
  rw [e]
  simp [hne]
theorem put_mem : ∀ (l : List ByteArray) (t x : ByteArray), x ∈ put l t ↔ x ∈ l ∨ x = t
  | [], t, x => by simp [put, spot]
  | y :: r, t, x => by
    cases h : blt y t with
    | true =>
      rw [put_less _ _ _ h, List.mem_cons, put_mem r t x, List.mem_cons, or_assoc]
    | false =>
      by_cases e : y = t
      · subst e
        rw [put_same, List.mem_cons]
        constructor
        · exact .inl
        · rintro (q | q)
          · exact q
          · exact .inl q
      · rw [put_more _ _ _ h e, List.mem_cons]
        exact or_comm
theorem put_rising : ∀ (l : List ByteArray) (t : ByteArray), l.Pairwise (fun a b => blt a b = true) → (put l t).Pairwise (fun a b => blt a b = true)
  | [], t, _ => by simp [put, spot]
  | y :: r, t, h => by
    cases hb : blt y t with
    | true =>
      rw [put_less _ _ _ hb]
      rw [List.pairwise_cons] at h ⊢
      refine ⟨fun z hz => ?_, put_rising r t h.2⟩
      rcases (put_mem r t z).1 hz with q | q
      · exact h.1 z q
      · rw [q]; exact hb
    | false =>
      by_cases e : y = t
      · subst e
        rw [put_same]
        exact h
      · rw [put_more _ _ _ hb e]
        refine List.pairwise_cons.2 ⟨fun z hz => ?_, h⟩
        have h1 := blt_total hb e
        rw [List.pairwise_cons] at h
        rcases List.mem_cons.1 hz with q | q
        · rw [q]; exact h1
        · exact blt_trans h1 (h.1 z q)
/-- put in one by one -/
def puts (l : List ByteArray) : List ByteArray := l.foldl put []
theorem puts_gen : ∀ (l acc : List ByteArray), acc.Pairwise (fun a b => blt a b = true) → (l.foldl put acc).Pairwise (fun a b => blt a b = true) ∧ ∀ x, x ∈ l.foldl put acc ↔ x ∈ acc ∨ x ∈ l
  | [], acc, h => ⟨h, fun x => by simp⟩
  | t :: l, acc, h => by
    obtain ⟨h1, h2⟩ := puts_gen l (put acc t) (put_rising acc t h)
    refine ⟨h1, fun x => ?_⟩
    rw [List.foldl_cons, h2, put_mem, List.mem_cons, or_assoc]
theorem sorted_puts (l : List ByteArray) : Lib.compact ((l.map bl).mergeSort fun x y => decide (x ≤ y)) = (puts l).map bl := by
  have ef : (fun x y : Bs => decide (x ≤ y)) = le := by funext x y; exact le_is x y
  rw [ef]
  have hs : ((l.map bl).mergeSort le).Pairwise (fun x y => le x y = true) := List.pairwise_mergeSort le_trans le_total _
  obtain ⟨h1, h2⟩ := puts_gen l [] List.Pairwise.nil
  refine uniq lt_irr lt_asy _ _ (compact_rising hs) ?_ ?_
  · unfold puts
    rw [List.pairwise_map]
    exact h1.imp (fun {a b} h => by rw [blt_bl] at h; exact h)
  · intro x
    rw [compact_mem, List.mem_mergeSort, List.mem_map, List.mem_map]
    constructor
    · rintro ⟨t, ht, rfl⟩
      exact ⟨t, (h2 t).2 (.inr ht), rfl⟩
    · rintro ⟨t, ht, rfl⟩
      exact ⟨t, by simpa using (h2 t).1 ht, rfl⟩
/-- the names as they stand -/
def rawF (l : List Fl) : List ByteArray := (l.filter (fun f => objB f.1)).map (fun f => f.1)
def rawV (vs : List (List Fl × Int)) : List ByteArray := vs.flatMap (fun v => rawF v.1)
theorem allF_raw : ∀ (l : List Fl) (acc : List ByteArray), allF acc l = (rawF l).foldl put acc
  | [], acc => rfl
  | f :: l, acc => by
    show allF (step acc f) l = _
    rw [allF_raw l]
    unfold step rawF
    cases h : objB f.1 <;> simp [h]
theorem allV_raw (vs : List (List Fl × Int)) : allV vs = puts (rawV vs) := by
  have h : ∀ (vs : List (List Fl × Int)) (acc : List ByteArray), vs.foldl (fun acc v => allF acc v.1) acc = (rawV vs).foldl put acc := by
    intro vs
    induction vs with
    | nil => intro acc; rfl
    | cons v vs ih =>
      intro acc
      show vs.foldl _ (allF acc v.1) = _
      rw [ih, allF_raw]
      unfold rawV
      rw [List.flatMap_cons, List.foldl_append]
  exact h vs []
/-- texts as cells, in the library's words -/
theorem tx_bl (l : List ByteArray) : strs.tx l = (l.map bl).map Go.Proofs.encStr := by
  unfold strs.tx strs.strV bl
  rw [List.map_map]
  rfl
end Go.Proofs.Ytlcdbkelonbcfaa.nms
