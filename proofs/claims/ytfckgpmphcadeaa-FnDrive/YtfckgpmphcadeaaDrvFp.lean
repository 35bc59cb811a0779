/-
  What a right op, and the power's going, leave of a right drive, in plain words: it is right still, and each other file is found in it as it was. No condition.
-/
import Derived.Test.YtfckgpmphcadeaaDrvPl
import Derived.Test.YtfckgpmphcadeaaDrvRd
import Derived.Test.YtfckgpmphcadeaaDrvCr
namespace Go.Proofs.Ytfckgpmphcadeaa.drv
open Go.RowKit Go.Joins Go.Sort
open Go.Proofs.Ytfckgpmphcadeaa.base Go.Proofs.Ytfckgpmphcadeaa.blk Go.Proofs.Ytfckgpmphcadeaa.aid
open Go.Proofs.Ytfckgpmphcadeaa.rwStored (cs)
set_option linter.unusedVariables false

theorem files_of : ∀ (p : Option File) (l : List File), (∀ f ∈ l, storedB f = true) → Rising l → (∀ q, p = some q → ∀ f ∈ l, blt q.1 f.1 = true) → filesB p l = true
  | p, [], _, _, _ => rfl
  | p, f :: r, h1, h2, h3 => by
    have hp := List.pairwise_cons.1 h2
    rw [filesB, Bool.and_eq_true]
    refine ⟨?_, files_of (some f) r (fun g hg => h1 g (.tail _ hg)) hp.2 (fun q e g hg => by cases e; exact hp.1 g hg)⟩
    rw [fileB_stored, Bool.and_eq_true]
    refine ⟨h1 f (.head _), ?_⟩
    cases p with
    | none => rfl
    | some q => exact h3 q rfl f (.head _)
theorem files_stored : ∀ (p : Option File) (l : List File), filesB p l = true → ∀ f ∈ l, storedB f = true
  | p, [], _, f, hf => by cases hf
  | p, g :: r, h, f, hf => by
    rw [filesB, Bool.and_eq_true] at h
    rcases List.mem_cons.1 hf with rfl | hf
    · have h1 := h.1
      rw [fileB_stored, Bool.and_eq_true] at h1
      exact h1.1
    · exact files_stored (some g) r h.2 f hf
theorem drive_of {l : List File} {r : Int} (h0 : 0 ≤ r) (h1 : r ≤ 100000) (h2 : fitsB l r = true) (h3 : ∀ f ∈ l, storedB f = true) (h4 : Rising l) : driveB l r = true := by
  rw [drive_parts h0 h1, h2, files_of none l h3 h4 (fun q e => by cases e)]
  rfl
theorem drive_stored {l : List File} {r : Int} (h : driveB l r = true) : ∀ f ∈ l, storedB f = true := files_stored none l (driveB_parts h).2.2.2.1
theorem drive_fits {l : List File} {r : Int} (h : driveB l r = true) : fitsB l r = true := fitsB_of h (Nat.le_refl _) (Int.le_refl _)
/-- a file that is there is found where it is -/
theorem find_mem {l : List File} (h : Rising l) {f : File} (hf : f ∈ l) : ∃ k : Nat, find l f.1 = (k : Int) ∧ l[k]? = some f := by
  obtain ⟨j, hj⟩ := List.getElem?_of_mem hf
  have key : ∀ (m : List File) (i : Nat), (∃ x ∈ m, x.1 = f.1) → findF f.1 m i ≠ -1 := by
    intro m
    induction m with
    | nil => intro i hx; obtain ⟨x, hx, _⟩ := hx; cases hx
    | cons y m ih =>
      intro i hx
      unfold findF
      split
      · omega
      · rename_i hy
        refine ih (i + 1) ?_
        obtain ⟨x, hx, e⟩ := hx
        rcases List.mem_cons.1 hx with rfl | hx
        · exact absurd e hy
        · exact ⟨x, hx, e⟩
  rcases find_bd l f.1 with h1 | ⟨k, h1, h2, g, h3, h4⟩
  · exact absurd h1 (key l 0 ⟨f, hf, rfl⟩)
  · refine ⟨k, h1, ?_⟩
    rcases Nat.lt_trichotomy k j with hk | hk | hk
    · have := blt_ne (rising_at h hk h3 hj)
      exact absurd h4 this
    · subst hk; exact hj
    · have := blt_ne (rising_at h hk hj h3)
      exact absurd h4.symm this
/-- what is read of a file that is there -/
theorem read_mem {l : List File} {r : Int} (h : driveB l r = true) {f : File} (hf : f ∈ l) : readD l r f.1 = (f.2.1, 0) := by
  obtain ⟨k, h1, h2⟩ := find_mem (drive_rising h) hf
  have hn := filesB_all none l (driveB_parts h).2.2.2.1 f hf
  have := (name_small hn.1).2
  exact readD_some (by omega) h h1 h2
theorem keepF_name (f : File) (k : Int) : (keepF f k).1 = f.1 := rfl
/-- what stays of a right file -/
theorem keep_parts {f : File} (k : Int) (h : 0 ≤ f.2.2) (h2 : f.2.2 ≤ (f.2.1.size : Int)) : ∃ m : Nat, keepF f k = (f.1, f.2.1.extract 0 m, (m : Int)) ∧ f.2.2 ≤ (m : Int) ∧ m ≤ f.2.1.size ∧ (f.2.1.extract 0 m).size = m := by
  obtain ⟨x0, x1, x2⟩ := f
  simp only at h h2 ⊢
  have hb := more_bd k ((x1.size : Int) - x2) (by omega)
  obtain ⟨m, hm⟩ := Int.eq_ofNat_of_zero_le (show 0 ≤ x2 + moreOf k ((x1.size : Int) - x2) by omega)
  refine ⟨m, keepF_nat x0 x1 x2 k m hm (by omega), by omega, by omega, by simp; omega⟩
theorem keep_stored {f : File} (k : Int) (h : storedB f = true) : storedB (keepF f k) = true := by
  unfold storedB at h
  simp only [Bool.and_eq_true, decide_eq_true_eq] at h
  obtain ⟨m, h1, h2, h3, h4⟩ := keep_parts (f := f) k h.1.2 h.2
  rw [h1]
  unfold storedB
  simp only [Bool.and_eq_true, decide_eq_true_eq]
  exact ⟨⟨⟨h.1.1.1, by omega⟩, by omega⟩, by omega⟩
theorem keep_mem : ∀ (l : List File) (ks : List Int) (g : File), g ∈ keepL l ks → ∃ f ∈ l, ∃ k, g = keepF f k
  | [], ks, g, h => by simp [keepL] at h
  | f :: r, [], g, h => by
    rw [keepL] at h
    rcases List.mem_cons.1 h with rfl | h
    · exact ⟨f, .head _, 0, rfl⟩
    · obtain ⟨x, hx, k, e⟩ := keep_mem r [] g h
      exact ⟨x, .tail _ hx, k, e⟩
  | f :: r, k :: ks, g, h => by
    rw [keepL] at h
    rcases List.mem_cons.1 h with rfl | h
    · exact ⟨f, .head _, k, rfl⟩
    · obtain ⟨x, hx, k, e⟩ := keep_mem r ks g h
      exact ⟨x, .tail _ hx, k, e⟩
theorem keep_rising : ∀ (l : List File) (ks : List Int), Rising l → Rising (keepL l ks)
  | [], ks, h => by simp [keepL]; exact .nil
  | f :: r, [], h => by
    have hp := List.pairwise_cons.1 h
    rw [keepL]
    refine List.pairwise_cons.2 ⟨?_, keep_rising r [] hp.2⟩
    intro g hg
    obtain ⟨x, hx, k, rfl⟩ := keep_mem r [] g hg
    exact hp.1 x hx
  | f :: r, k :: ks, h => by
    have hp := List.pairwise_cons.1 h
    rw [keepL]
    refine List.pairwise_cons.2 ⟨?_, keep_rising r ks hp.2⟩
    intro g hg
    obtain ⟨x, hx, k, rfl⟩ := keep_mem r ks g hg
    exact hp.1 x hx
theorem keep_bytes : ∀ (l : List File) (ks : List Int), bytes (keepL l ks) ≤ bytes l
  | [], ks => by simp [keepL]
  | f :: r, [] => by
    have := keep_bytes r []
    rw [keepL, bytes, bytes]
    have h : (keepF f 0).2.1.size ≤ f.2.1.size := by unfold keepF; simp; omega
    omega
  | f :: r, k :: ks => by
    have := keep_bytes r ks
    rw [keepL, bytes, bytes]
    have h : (keepF f k).2.1.size ≤ f.2.1.size := by unfold keepF; simp; omega
    omega
/-- a right drive is right when the power has gone -/
theorem crash_right {l : List File} {r : Int} (ks : List Int) (h : driveB l r = true) : driveB (keepL l ks) r = true := by
  obtain ⟨h1, h2, h3, h4, h5⟩ := driveB_parts h
  refine drive_of h2 h3 (fitsB_of h (by rw [keepL_len]; exact Nat.le_refl _) (keep_bytes l ks)) ?_ (keep_rising l ks (drive_rising h))
  intro g hg
  obtain ⟨f, hf, k, rfl⟩ := keep_mem l ks g hg
  exact keep_stored k (drive_stored h f hf)

theorem mem_out {l : List File} {i : Nat} {f g : File} (hf : l[i]? = some f) (hg : g ∈ l) (hne : g.1 ≠ f.1) : g ∈ out l i := by
  obtain ⟨j, hj⟩ := List.getElem?_of_mem hg
  unfold out
  rcases Nat.lt_trichotomy j i with h | h | h
  · refine List.mem_append.2 (.inl ?_)
    refine List.mem_of_getElem? (i := j) ?_
    rw [List.getElem?_take, if_pos h]
    exact hj
  · subst h
    rw [hj] at hf
    cases hf
    exact absurd rfl hne
  · refine List.mem_append.2 (.inr ?_)
    refine List.mem_of_getElem? (i := j - (i + 1)) ?_
    rw [List.getElem?_drop, show i + 1 + (j - (i + 1)) = j by omega]
    exact hj
theorem out_mem {l : List File} {i : Nat} {g : File} (hg : g ∈ out l i) : g ∈ l := by
  unfold out at hg
  rcases List.mem_append.1 hg with h | h
  · exact List.mem_of_mem_take h
  · exact List.mem_of_mem_drop h
theorem mem_set {l : List File} {i : Nat} {f g x : File} (hf : l[i]? = some f) (hg : g ∈ l) (hne : g.1 ≠ f.1) : g ∈ l.set i x := by
  obtain ⟨j, hj⟩ := List.getElem?_of_mem hg
  refine List.mem_of_getElem? (i := j) ?_
  rw [List.getElem?_set]
  split
  · rename_i h
    subst h
    rw [hj] at hf
    cases hf
    exact absurd rfl hne
  · exact hj
theorem mem_ins {l : List File} {i : Nat} {g x : File} (hg : g ∈ l) : g ∈ ins l i x := by
  unfold ins
  rw [← List.take_append_drop i l] at hg
  rcases List.mem_append.1 hg with h | h
  · exact List.mem_append.2 (.inl h)
  · exact List.mem_append.2 (.inr (.tail _ h))
theorem ins_mem {l : List File} {i : Nat} {g x : File} (hg : g ∈ ins l i x) : g = x ∨ g ∈ l := by
  unfold ins at hg
  rcases List.mem_append.1 hg with h | h
  · exact .inr (List.mem_of_mem_take h)
  · rcases List.mem_cons.1 h with h | h
    · exact .inl h
    · exact .inr (List.mem_of_mem_drop h)
theorem rising_set {l : List File} {i : Nat} {f x : File} (h : Rising l) (hf : l[i]? = some f) (he : x.1 = f.1) : Rising (l.set i x) := by
  have hi := (List.getElem?_eq_some_iff.1 hf).1
  have e : (l.set i x).map (fun f => f.1) = l.map (fun f => f.1) := by
    rw [List.map_set, he]
    refine List.ext_getElem? (fun j => ?_)
    rw [List.getElem?_set]
    split
    · rename_i hj
      subst hj
      have hfe := (List.getElem?_eq_some_iff.1 hf).2
      simp [hi, hfe]
    · rfl
  unfold Rising at *
  have h2 := List.pairwise_map (f := fun f : File => f.1) (R := fun a b => blt a b = true) |>.2 h
  rw [← e] at h2
  exact List.pairwise_map.1 h2
/-- put in: it rises still, and each other file is in it -/
theorem put_rising {l : List File} {x : File} (h : Rising l) : Rising (put l x) := by
  cases ht : there l x.1 with
  | true =>
    obtain ⟨f, hf, he⟩ := there_at ht
    rw [put_there ht]
    exact rising_set h hf he.symm
  | false =>
    rw [put_ins ht]
    exact rising_put_in h ht
theorem put_mem {l : List File} {x g : File} (hg : g ∈ put l x) : g = x ∨ g ∈ l := by
  cases ht : there l x.1 with
  | true =>
    rw [put_there ht] at hg
    rcases List.mem_or_eq_of_mem_set hg with h | h
    · exact .inr h
    · exact .inl h
  | false =>
    rw [put_ins ht] at hg
    exact ins_mem hg
theorem mem_put {l : List File} {x g : File} (hg : g ∈ l) (hne : g.1 ≠ x.1) : g ∈ put l x := by
  cases ht : there l x.1 with
  | true =>
    obtain ⟨f, hf, he⟩ := there_at ht
    rw [put_there ht]
    exact mem_set hf hg (by rw [he]; exact hne)
  | false =>
    rw [put_ins ht]
    exact mem_ins hg
theorem find_none {l : List File} (h : Rising l) {n : ByteArray} (hn : ¬ 0 ≤ find l n) : there l n = false := by
  have := find_spot h n
  cases ht : there l n with
  | false => rfl
  | true =>
    rw [ht, if_pos rfl] at this
    omega
/-- a right op leaves a right drive right, and each other file as it was -/
theorem do_right {l : List File} {r k : Int} {n t x : ByteArray} {l2 : List File} {r2 : Int} (h : driveB l r = true) (ho : opB k n t x = true) (hd : doR l r k n t x = (l2, r2, 0)) : driveB l2 r2 = true ∧ ∀ f ∈ l, f.1 ≠ n → f.1 ≠ t → f ∈ l2 := by
  obtain ⟨h1, h2, h3, h4, h5⟩ := driveB_parts h
  have hR := drive_rising h
  have hS := drive_stored h
  unfold opB at ho
  rw [Bool.and_eq_true] at ho
  obtain ⟨hn, ho⟩ := ho
  unfold doR at hd
  simp only at hd
  by_cases hk : k = 1
  · rw [if_pos hk] at hd ho
    simp only [Bool.and_eq_true, decide_eq_true_eq] at ho
    by_cases hf : 0 ≤ find l n
    · rw [if_pos hf] at hd
      simp at hd
    · rw [if_neg hf] at hd
      by_cases hfull : 60 ≤ l.length ∨ r < bytes l + x.size
      · rw [if_pos hfull] at hd
        simp at hd
      · rw [if_neg hfull] at hd
        simp only [Prod.mk.injEq] at hd
        obtain ⟨rfl, rfl, _⟩ := hd
        have ht := find_none hR hf
        refine ⟨drive_of h2 h3 ?_ ?_ (put_rising hR), fun f hf' hne _ => mem_put hf' hne⟩
        · rw [put_ins (f := (n, x, 0)) ht]
          exact (fits_ins n x 0 (spot_le n l)).2 hfull
        · intro g hg
          rcases put_mem hg with rfl | hg
          · unfold storedB
            simp [hn]
            omega
          · exact hS g hg
  · rw [if_neg hk] at hd ho
    by_cases hneg : find l n < 0
    · rw [if_pos hneg] at hd
      simp at hd
    · rw [if_neg hneg] at hd
      rcases find_bd l n with hm | ⟨i, hi, hil, f, hf, hfn⟩
      · omega
      rw [hi] at hd
      rw [show ((i : Nat) : Int).toNat = i by omega, hf] at hd
      simp only at hd
      have hfS := hS f (List.mem_of_getElem? hf)
      by_cases hk2 : k = 2
      · rw [if_pos hk2] at hd
        simp only [Prod.mk.injEq] at hd
        obtain ⟨rfl, rfl, _⟩ := hd
        refine ⟨drive_of h2 h3 (fitsB_of h (by simp) (by rw [bytes_set (g := (f.1, f.2.1, (f.2.1.size : Int))) hf rfl]; exact Int.le_refl _)) ?_ (rising_set hR hf rfl), fun g hg hne _ => mem_set hf hg (by rw [hfn]; exact hne)⟩
        intro g hg
        rcases List.mem_or_eq_of_mem_set hg with hg | rfl
        · exact hS g hg
        · unfold storedB at hfS ⊢
          simp only [Bool.and_eq_true, decide_eq_true_eq] at hfS ⊢
          exact ⟨⟨hfS.1.1, by omega⟩, Int.le_refl _⟩
      · rw [if_neg hk2] at hd
        by_cases hk3 : k = 3
        · rw [if_pos hk3] at hd ho
          simp only [Bool.and_eq_true, decide_eq_true_eq] at ho
          by_cases htn : t = n
          · rw [if_pos htn] at hd
            simp only [Prod.mk.injEq] at hd
            obtain ⟨rfl, rfl, _⟩ := hd
            exact ⟨h, fun g hg _ _ => hg⟩
          · rw [if_neg htn] at hd
            simp only [Prod.mk.injEq] at hd
            obtain ⟨rfl, rfl, _⟩ := hd
            have hb := bytes_out hf
            have hol := (out_len hil).2.2
            have hpb := put_bd (out l i) (t, f.2.1, f.2.2)
            simp only at hpb
            refine ⟨drive_of h2 h3 (fitsB_of h (by omega) (by omega)) ?_ (put_rising (rising_out hR i)), fun g hg hne hnt => mem_put (mem_out hf hg (by rw [hfn]; exact hne)) hnt⟩
            intro g hg
            rcases put_mem hg with rfl | hg
            · unfold storedB at hfS ⊢
              simp only [Bool.and_eq_true, decide_eq_true_eq] at hfS ⊢
              exact ⟨⟨⟨ho.1, hfS.1.1.2⟩, hfS.1.2⟩, hfS.2⟩
            · exact hS g (out_mem hg)
        · rw [if_neg hk3] at hd
          simp only [Prod.mk.injEq] at hd
          obtain ⟨rfl, rfl, _⟩ := hd
          have hb := bytes_out hf
          have hol := (out_len hil).2.2
          exact ⟨drive_of h2 h3 (fitsB_of h (by omega) (by omega)) (fun g hg => hS g (out_mem hg)) (rising_out hR i), fun g hg hne _ => mem_out hf hg (by rw [hfn]; exact hne)⟩
/-- what is done with code 0: the drive is right, and what is read of it of the other files is what it was -/
theorem do_reads {l : List File} {r k : Int} {n t x : ByteArray} {l2 : List File} {r2 : Int} (h : driveB l r = true) (hd : doT l r k n t x = (l2, r2, 0)) : driveB l2 r2 = true ∧ ∀ f ∈ l, f.1 ≠ n → f.1 ≠ t → readD l2 r2 f.1 = (f.2.1, 0) := by
  unfold doT at hd
  rw [h] at hd
  cases ho : opB k n t x with
  | false => rw [ho] at hd; simp at hd
  | true =>
    rw [ho] at hd
    obtain ⟨h1, h2⟩ := do_right h ho (by simpa using hd)
    exact ⟨h1, fun f hf a b => read_mem h1 (h2 f hf a b)⟩
end Go.Proofs.Ytfckgpmphcadeaa.drv
