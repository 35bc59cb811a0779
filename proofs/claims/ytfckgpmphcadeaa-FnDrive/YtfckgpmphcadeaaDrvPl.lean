/-
  What acts do to right drives, in plain words: sizes, names in order, the room that is left. No condition.
-/
import Derived.Test.YtfckgpmphcadeaaDrvCq
namespace Go.Proofs.Ytfckgpmphcadeaa.drv
open Go.RowKit Go.Joins Go.Sort
open Go.Proofs.Ytfckgpmphcadeaa.base Go.Proofs.Ytfckgpmphcadeaa.blk Go.Proofs.Ytfckgpmphcadeaa.aid
open Go.Proofs.Ytfckgpmphcadeaa.rwStored (cs)
set_option linter.unusedVariables false

theorem small_take {l : List File} (h : Small l) (i : Nat) : Small (l.take i) := fun f hf => h f (List.mem_of_mem_take hf)
theorem small_drop {l : List File} (h : Small l) (i : Nat) : Small (l.drop i) := fun f hf => h f (List.mem_of_mem_drop hf)
theorem small_app {l m : List File} (h : Small l) (h2 : Small m) : Small (l ++ m) := fun f hf => (List.mem_append.1 hf).elim (h f) (h2 f)
theorem small_cons {f : File} {l : List File} (h : f.1.size ≤ 1048576 ∧ f.2.1.size ≤ 1048576) (h2 : Small l) : Small (f :: l) := fun g hg => (List.mem_cons.1 hg).elim (fun e => by rw [e]; exact h) (h2 g)
theorem small_ins {l : List File} {f : File} (h : Small l) (hf : f.1.size ≤ 1048576 ∧ f.2.1.size ≤ 1048576) (i : Nat) : Small (ins l i f) := small_app (small_take h i) (small_cons hf (small_drop h i))
theorem small_put {l : List File} {f : File} (h : Small l) (hf : f.1.size ≤ 1048576 ∧ f.2.1.size ≤ 1048576) : Small (put l f) := small_app (small_take h _) (small_cons hf (small_drop h _))
theorem small_out {l : List File} (h : Small l) (i : Nat) : Small (out l i) := small_app (small_take h _) (small_drop h _)
theorem small_set {l : List File} {f : File} (h : Small l) (hf : f.1.size ≤ 1048576 ∧ f.2.1.size ≤ 1048576) (i : Nat) : Small (l.set i f) := fun g hg => (List.mem_or_eq_of_mem_set hg).elim (h g) (fun e => by rw [e]; exact hf)
theorem bytes_split (l : List File) (i : Nat) : bytes l = bytes (l.take i) + bytes (l.drop i) := by rw [← bytes_app, List.take_append_drop]
theorem bytes_ins (l : List File) (i : Nat) (f : File) : bytes (ins l i f) = bytes l + f.2.1.size := by
  unfold ins
  rw [bytes_app, bytes, bytes_split l i]
  omega
theorem bytes_drop_le (l : List File) {i j : Nat} (h : i ≤ j) : bytes (l.drop j) ≤ bytes (l.drop i) := by
  have e : (l.drop i).drop (j - i) = l.drop j := by rw [List.drop_drop]; congr 1; omega
  have h1 := bytes_split (l.drop i) (j - i)
  rw [e] at h1
  have := bytes_pos ((l.drop i).take (j - i))
  omega
theorem put_bd (l : List File) (f : File) : (put l f).length ≤ l.length + 1 ∧ bytes (put l f) ≤ bytes l + f.2.1.size := by
  have hs := spot_le f.1 l
  unfold put
  refine ⟨?_, ?_⟩
  · simp only [List.length_append, List.length_take, List.length_cons, List.length_drop]
    split <;> omega
  · rw [bytes_app, bytes]
    have h0 := bytes_split l (spot f.1 l 0)
    have h1 := bytes_drop_le l (Nat.le_succ (spot f.1 l 0))
    split
    · have h2 : bytes (l.drop (spot f.1 l 0 + 1)) ≤ bytes (l.drop (spot f.1 l 0)) := h1
      omega
    · omega
theorem drop_at {l : List File} {i : Nat} {f : File} (h : l[i]? = some f) : l.drop i = f :: l.drop (i + 1) := by
  have hk := (List.getElem?_eq_some_iff.1 h).1
  rw [List.drop_eq_getElem_cons hk, (List.getElem?_eq_some_iff.1 h).2]
theorem bytes_out {l : List File} {i : Nat} {f : File} (h : l[i]? = some f) : bytes (out l i) + f.2.1.size = bytes l := by
  unfold out
  rw [bytes_app, bytes_split l i, drop_at h, bytes]
  omega
theorem bytes_set {l : List File} {i : Nat} {f g : File} (h : l[i]? = some f) (hg : g.2.1.size = f.2.1.size) : bytes (l.set i g) = bytes l := by
  have hk := (List.getElem?_eq_some_iff.1 h).1
  rw [List.set_eq_take_append_cons_drop, if_pos hk, bytes_app, bytes, bytes_split l i, drop_at h, bytes, hg]
theorem fitsB_of {l m : List File} {r : Int} (h : driveB l r = true) (h1 : m.length ≤ l.length) (h2 : bytes m ≤ bytes l) : fitsB m r = true := by
  obtain ⟨a, _, _, _, b⟩ := driveB_parts h
  unfold fitsB
  simp
  omega
theorem fits_sync {l : List File} {r : Int} (h : driveB l r = true) (n : ByteArray) : fitsB (syncL l n) r = true := by
  unfold syncL
  cases hq : l[spot n l 0]? with
  | none => exact fitsB_of h (Nat.le_refl _) (Int.le_refl _)
  | some f =>
    have h1 := bytes_set (g := (f.1, f.2.1, (f.2.1.size : Int))) hq rfl
    simp only at h1 ⊢
    exact fitsB_of h (by simp) (by rw [h1]; exact Int.le_refl _)
theorem fits_out {l : List File} {r : Int} (h : driveB l r = true) (n : ByteArray) (ht : there l n = true) : fitsB (outL l n) r = true := by
  obtain ⟨f, hf, _⟩ := there_at ht
  have hk := (List.getElem?_eq_some_iff.1 hf).1
  unfold outL
  have h1 := bytes_out hf
  have h2 := (out_len hk).2.2
  exact fitsB_of h (by omega) (by omega)
theorem fits_ren {l : List File} {r : Int} (h : driveB l r = true) (n t : ByteArray) : fitsB (renL l n t) r = true := by
  unfold renL
  cases hq : l[spot n l 0]? with
  | none => exact fitsB_of h (Nat.le_refl _) (Int.le_refl _)
  | some f =>
    have hk := (List.getElem?_eq_some_iff.1 hq).1
    have h1 := bytes_out hq
    have h2 := (out_len hk).2.2
    have h3 := put_bd (out l (spot n l 0)) (t, f.2.1, f.2.2)
    simp only at h3 ⊢
    exact fitsB_of h (by omega) (by omega)
theorem fits_ins {l : List File} {r : Int} (n x : ByteArray) (z : Int) {i : Nat} (hi : i ≤ l.length) : fitsB (ins l i (n, x, z)) r = true ↔ ¬ (60 ≤ l.length ∨ r < bytes l + x.size) := by
  unfold fitsB
  rw [ins_len hi, bytes_ins]
  simp
  omega
theorem small_sync {l : List File} (h : Small l) (n : ByteArray) : Small (syncL l n) := by
  unfold syncL
  cases hq : l[spot n l 0]? with
  | none => exact h
  | some f =>
    simp only
    exact small_set (f := (f.1, f.2.1, (f.2.1.size : Int))) h (h f (List.mem_of_getElem? hq)) _
theorem small_ren {l : List File} (h : Small l) (n t : ByteArray) (ht : t.size ≤ 1048576) : Small (renL l n t) := by
  unfold renL
  cases hq : l[spot n l 0]? with
  | none => exact h
  | some f => exact small_put (small_out h _) ⟨ht, (h f (List.mem_of_getElem? hq)).2⟩
theorem len_sync (l : List File) (n : ByteArray) : (syncL l n).length = l.length := by
  unfold syncL
  cases l[spot n l 0]? <;> simp
theorem len_out (l : List File) (n : ByteArray) : (outL l n).length ≤ l.length := by
  unfold outL out
  simp
  omega
theorem len_ren (l : List File) (n t : ByteArray) : (renL l n t).length ≤ l.length + 1 := by
  unfold renL
  cases hq : l[spot n l 0]? with
  | none => simp
  | some f =>
    have h3 := (put_bd (out l (spot n l 0)) (t, f.2.1, f.2.2)).1
    have h4 := len_out l n
    unfold outL at h4
    simp only at h3 ⊢
    omega
theorem blt_asym {a b : ByteArray} (h : blt a b = true) : blt b a = false := by
  cases hq : blt b a with
  | false => rfl
  | true =>
    have := blt_trans h hq
    rw [blt_irr] at this
    cases this
/-- a file that is put in stands where its name would -/
theorem rising_ins {l : List File} {f : File} (h : Rising l) (ht : there l f.1 = false) (htot : ∀ g ∈ l, blt g.1 f.1 = false → g.1 ≠ f.1 → blt f.1 g.1 = true) : Rising (ins l (spot f.1 l 0) f) := by
  have hs := spot_le f.1 l
  have hlt := fun t g (h1 : t < spot f.1 l 0) => spot_less f.1 l 0 t g (by omega)
  have hnot := fun g h1 => spot_not f.1 l 0 g h1
  unfold there at ht
  generalize spot f.1 l 0 = p at *
  simp only [Nat.sub_zero] at hnot
  have hfd : ∀ g ∈ l.drop p, blt f.1 g.1 = true := by
    intro g hg
    obtain ⟨j, hj⟩ := List.getElem?_of_mem hg
    rw [List.getElem?_drop] at hj
    by_cases hj0 : j = 0
    · subst hj0
      rw [Nat.add_zero] at hj
      rw [hj] at ht
      exact htot g (List.mem_of_getElem? hj) (hnot g hj) (by simpa using ht)
    · have hp : p < l.length := by have := (List.getElem?_eq_some_iff.1 hj).1; omega
      obtain ⟨y, hy⟩ : ∃ y, l[p]? = some y := ⟨_, List.getElem?_eq_getElem hp⟩
      rw [hy] at ht
      have h1 := htot y (List.mem_of_getElem? hy) (hnot y hy) (by simpa using ht)
      exact blt_trans h1 (rising_at h (i := p) (j := p + j) (by omega) hy hj)
  unfold ins Rising
  refine List.pairwise_append.2 ⟨h.sublist (List.take_sublist _ _), List.pairwise_cons.2 ⟨hfd, h.sublist (List.drop_sublist _ _)⟩, ?_⟩
  intro a ha b hb
  obtain ⟨j, hj⟩ := List.getElem?_of_mem ha
  have hjp : j < p := by have := (List.getElem?_eq_some_iff.1 hj).1; simp at this; omega
  have hj' : l[j]? = some a := by rw [List.getElem?_take] at hj; simpa [hjp] using hj
  have haf := hlt j a hjp hj'
  rcases List.mem_cons.1 hb with rfl | hb
  · exact haf
  · exact blt_trans haf (hfd b hb)
theorem less_total : ∀ xs ys : List UInt8, Op.bytesLess xs ys = false → xs ≠ ys → Op.bytesLess ys xs = true
  | [], [], _, h => absurd rfl h
  | [], b :: y, h, _ => by simp [Op.bytesLess] at h
  | a :: x, [], _, _ => rfl
  | a :: x, b :: y, h, hne => by
    rw [Op.bytesLess, Bool.or_eq_false_iff] at h
    rw [Op.bytesLess, Bool.or_eq_true]
    have h1 : ¬ a < b := by simpa using h.1
    by_cases hab : a = b
    · subst hab
      have h2 : Op.bytesLess x y = false := by simpa using h.2
      refine .inr ?_
      rw [less_total x y h2 (fun e => hne (by rw [e]))]
      simp
    · refine .inl ?_
      have h3 : b < a := by
        rw [u8_lt] at h1 ⊢
        have h4 : a.toNat ≠ b.toNat := fun e => hab (UInt8.toNat_inj.1 e)
        omega
      simpa using h3
theorem blt_total {a b : ByteArray} (h : blt a b = false) (hne : a ≠ b) : blt b a = true :=
  less_total _ _ h (fun e => hne (by rw [toList_data, toList_data] at e; exact ByteArray.ext (Array.toList_inj.1 e)))
/-- names rise still -/
theorem rising_put_in {l : List File} {f : File} (h : Rising l) (ht : there l f.1 = false) : Rising (ins l (spot f.1 l 0) f) := rising_ins h ht (fun g _ h1 h2 => blt_total h1 h2)
/-- a file that is renamed to its own name stays where it was -/
theorem ren_same {l : List File} (h : Rising l) {n : ByteArray} (ht : there l n = true) : renL l n n = l := by
  obtain ⟨f, hf, hfn⟩ := there_at ht
  have hk := (List.getElem?_eq_some_iff.1 hf).1
  unfold renL
  rw [hf]
  simp only
  have hsp : spot n (out l (spot n l 0)) 0 = spot n l 0 := by
    have hlt := fun t g (h1 : t < spot n l 0) => spot_less n l 0 t g (by omega)
    generalize spot n l 0 = p at *
    have h2 := spot_is n (out l p) 0 p (by have := (out_len hk).2.2; omega) (fun t g h1 h2 => by
      unfold out at h2
      rw [List.getElem?_append_left (by simp; omega), List.getElem?_take] at h2
      exact hlt t g h1 (by simpa [h1] using h2)) (fun g h2 => by
      unfold out at h2
      rw [List.getElem?_append_right (by simp; omega), List.getElem?_drop] at h2
      have e : p + 1 + (p - (l.take p).length) = p + 1 := by simp; omega
      rw [e] at h2
      have := rising_at h (i := p) (j := p + 1) (by omega) hf h2
      rw [hfn] at this
      exact blt_asym this)
    omega
  have hno : there (out l (spot n l 0)) n = false := by
    unfold there
    rw [hsp]
    generalize spot n l 0 = p at *
    cases hq : (out l p)[p]? with
    | none => rfl
    | some g =>
      unfold out at hq
      rw [List.getElem?_append_right (by simp; omega), List.getElem?_drop] at hq
      have e : p + 1 + (p - (l.take p).length) = p + 1 := by simp; omega
      rw [e] at hq
      have h3 := rising_at h (i := p) (j := p + 1) (by omega) hf hq
      rw [hfn] at h3
      have := blt_ne h3
      simp
      exact fun e => this e.symm
  have hp := put_ins (f := (n, f.2.1, f.2.2)) hno
  rw [hp]
  simp only
  rw [hsp]
  generalize spot n l 0 = p at *
  have hl1 : (l.take p).length = p := by simp; omega
  unfold ins out
  rw [List.take_append_of_le_length (by omega), List.take_of_length_le (by omega), List.drop_append_of_le_length (by omega), List.drop_of_length_le (by omega), List.nil_append]
  have e : (n, f.2.1, f.2.2) = f := by rw [← hfn]
  rw [e, ← drop_at hf, List.take_append_drop]
end Go.Proofs.Ytfckgpmphcadeaa.drv
