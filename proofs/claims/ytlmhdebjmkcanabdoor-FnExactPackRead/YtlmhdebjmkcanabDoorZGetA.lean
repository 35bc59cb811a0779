/-
  What spec.PackGet and impl.PackGet answer and leave. Conditions: a text of at most 1,048,576 bytes; for the program: the numbers of the rounds are there.
  What impl.blobAt and impl.PackGet answer and leave. Conditions: a text of at most 1,048,576 bytes; the numbers of the rounds are there.
-/
import Derived.Test.YtlmhdebjmkcanabDoorZBlobA
import Derived.Test.YtlmhdebjmkcanabDoorZCellA
import Derived.Test.YtlmhdebjmkcanabDoorZClone
namespace Go.Proofs.YtlmhdebjmkcanabDoor.pack
open Go.RowKit Go.Joins
open Go.Proofs.YtlmhdebjmkcanabDoor.base Go.Proofs.YtlmhdebjmkcanabDoor.blk Go.Proofs.YtlmhdebjmkcanabDoor.aid
open Go.Proofs.YtlmhdebjmkcanabDoor.sha (digest GV)
set_option linter.unusedVariables false

def entV (x : ByteArray) (k a n : Int) : Value := .agg #[.string x, .int .i64 k, .int .i64 a, .int .i64 n]
/-- what PackGet tells: kind, text, code -/
def getP (s x : ByteArray) (k a n : Int) : Int × ByteArray × Int :=
  if 20000 < s.size then (0, ⟨#[]⟩, 2)
  else if a < 0 ∨ n < 0 ∨ 2000 < n ∨ (s.size : Int) - n < a then (0, ⟨#[]⟩, 9)
  else if bRight (k, s.extract a.toNat (a.toNat + n.toNat)) = true ∧ bKey (k, s.extract a.toNat (a.toNat + n.toNat)) = x then (k, s.extract a.toNat (a.toNat + n.toNat), 0)
  else (0, ⟨#[]⟩, 5)
def outV (o : Int × ByteArray × Int) : Value := .agg #[.int .i64 o.1, .string o.2.1, .int .i64 o.2.2]

theorem bytes_ne {r s : ByteArray} (h : ¬ r = s) : (r.toList == s.toList) = false := by
  rw [ByteArray.toList_eq, ByteArray.toList_eq]
  simp
  intro e
  apply h
  apply ByteArray.ext
  exact e
theorem four {a n m : Int} (h : a < 0 ∨ n < 0 ∨ 2000 < n ∨ m - n < a) : a < 0 ∨ (0 ≤ a ∧ n < 0) ∨ (0 ≤ a ∧ 0 ≤ n ∧ 2000 < n) ∨ (0 ≤ a ∧ 0 ≤ n ∧ n ≤ 2000 ∧ m - n < a) := by omega

set_option maxRecDepth 100000 in
theorem get_spec_no (s x : ByteArray) (k a n : Int) (w : World) (hs : s.size ≤ 1048576) (h : 20000 < (s.size : Int) ∨ (a < 0 ∨ n < 0 ∨ 2000 < n ∨ (s.size : Int) - n < a)) :
    Calls Tryd.prog 17 #[.string s, .agg #[.string x, .int .i64 k, .int .i64 a, .int .i64 n]] w fun e w' => e = .returned (outV (getP s x k a n)) ∧ Below w.heap.size w w' := by
  by_cases h1 : 20000 < (s.size : Int)
  · have E : getP s x k a n = (0, ⟨#[]⟩, 2) := by unfold getP; rw [if_pos (by omega)]
    rw [E]
    clear E
    go_enter Tryd.func17, Tryd.ntmps17
    go_wp2
    exact bodyPost_ret (v := .agg #[.int .i64 0, .string ⟨#[]⟩, .int .i64 2]) (by simp [results, Tryd.results17, go_sem]) rfl ⟨rfl, lwb.below2 _ _ _⟩
  · have h2 := h.resolve_left h1
    have E : getP s x k a n = (0, ⟨#[]⟩, 9) := by unfold getP; rw [if_neg (by omega), if_pos h2]
    rw [E]
    have hs1 : (s.size : Int) ≤ 20000 := by omega
    clear E h hs
    rcases four h2 with g | ⟨g1, g2⟩ | ⟨g1, g2, g3⟩ | ⟨g1, g2, g3, g4⟩
    all_goals clear h2
    all_goals go_enter Tryd.func17, Tryd.ntmps17
    all_goals go_wp2
    all_goals exact bodyPost_ret (v := .agg #[.int .i64 0, .string ⟨#[]⟩, .int .i64 9]) (by simp [results, Tryd.results17, go_sem]) rfl ⟨rfl, lwb.below2 _ _ _⟩

set_option maxRecDepth 100000 in
set_option maxHeartbeats 2000000 in
theorem get_spec_in (s x : ByteArray) (k : Int) (a n : Nat) (w : World) (hs : s.size ≤ 20000) (hn : n ≤ 2000) (ha : a + n ≤ s.size) :
    Calls Tryd.prog 17 #[.string s, .agg #[.string x, .int .i64 k, .int .i64 a, .int .i64 n]] w fun e w' => e = .returned (outV (getP s x k a n)) ∧ Below w.heap.size w w' := by
  have h1 : (s.size : Int) ≤ 20000 := by omega
  have h2 : (n : Int) ≤ 2000 := by omega
  have h3 : (a : Int) + (n : Int) ≤ (s.size : Int) := by omega
  have h4 : (a : Int) ≤ (s.size : Int) - (n : Int) := by omega
  have hsl := slice_is s a n ha
  have HR := mkHid (fun wx => right_spec k (s.extract a (a + n)) wx)
  have HK := mkHid (fun wx => key_spec k (s.extract a (a + n)) wx)
  have E : Hid (getP s x k a n = if bRight (k, s.extract a (a + n)) = true ∧ bKey (k, s.extract a (a + n)) = x then (k, s.extract a (a + n), 0) else (0, ⟨#[]⟩, 5)) := mkHid (by
    unfold getP
    rw [if_neg (by omega), if_neg (by omega)]
    simp)
  clear hs hn ha
  generalize s.extract a (a + n) = t at *
  go_enter Tryd.func17, Tryd.ntmps17
  go_wp2_with fail
  have b0 := blk_old (blk_new w (.cells #[.string x, .int .i64 k, .int .i64 (a : Int), .int .i64 (n : Int)] 41) w.heap.size rfl) (.cells #[.int .i64 0, .string ⟨#[]⟩, .int .i64 0] 39)
  have b1 := blk_new (w.alloc (.cells #[.string x, .int .i64 k, .int .i64 (a : Int), .int .i64 (n : Int)] 41)) (.cells #[.int .i64 0, .string ⟨#[]⟩, .int .i64 0] 39) (w.heap.size + 1) (by simp)
  have hB := mkHid (lwb.below2 w (.cells #[.string x, .int .i64 k, .int .i64 (a : Int), .int .i64 (n : Int)] 41) (.cells #[.int .i64 0, .string ⟨#[]⟩, .int .i64 0] 39))
  have hW : ((w.alloc (.cells #[.string x, .int .i64 k, .int .i64 (a : Int), .int .i64 (n : Int)] 41)).alloc (.cells #[.int .i64 0, .string ⟨#[]⟩, .int .i64 0] 39)).heap.size = w.heap.size + 2 := by simp
  generalize (w.alloc (.cells #[.string x, .int .i64 k, .int .i64 (a : Int), .int .i64 (n : Int)] 41)).alloc (.cells #[.int .i64 0, .string ⟨#[]⟩, .int .i64 0] 39) = W at *
  obtain ⟨c0, c1, c2, c3⟩ := cel4 b0
  have d1 : ∀ o, (W.alloc o).cell? ⟨w.heap.size, 1, none⟩ = some (.int .i64 k) := fun o => (cel4 (blk_old b0 o)).2.1
  have d2 : ∀ o, (W.alloc o).cell? ⟨w.heap.size, 2, none⟩ = some (.int .i64 (a : Int)) := fun o => (cel4 (blk_old b0 o)).2.2.1
  have d3 : ∀ o, (W.alloc o).cell? ⟨w.heap.size, 3, none⟩ = some (.int .i64 (n : Int)) := fun o => (cel4 (blk_old b0 o)).2.2.2
  go_region
  have e0 : ((W.alloc (.cells #[.int .i64 k, .string t] 37)).drew).heap[w.heap.size]? = _ := blk_old b0 (.cells #[.int .i64 k, .string t] 37)
  have e1 : ((W.alloc (.cells #[.int .i64 k, .string t] 37)).drew).heap[w.heap.size + 1]? = _ := blk_old b1 (.cells #[.int .i64 k, .string t] 37)
  have e2 : ((W.alloc (.cells #[.int .i64 k, .string t] 37)).drew).heap[w.heap.size + 2]? = _ := blk_new W (.cells #[.int .i64 k, .string t] 37) (w.heap.size + 2) hW.symm
  have hB2 := mkHid ((hB.out.alloc hB.out.size (.cells #[.int .i64 k, .string t] 37)).drew)
  generalize (W.alloc (.cells #[.int .i64 k, .string t] 37)).drew = V at *
  clear b0 b1 hB hW c0 c1 c2 c3 d1 d2 d3
  obtain ⟨f0, f1⟩ := cel2 e2
  have f2 := (cel4 e0).1
  cases hR : bRight (k, t)
  · rw [hR] at HR
    go_wp2_with fail
    refine wp_region_held_drew (S := (fun w' => w'.cell? ⟨w.heap.size + 2, 0, none⟩ = some (.int .i64 k) ∧ w'.cell? ⟨w.heap.size + 2, 1, none⟩ = some (.string t))) (by kernel_rfl) (by exact ⟨f0, f1⟩) (fun hHeld => ?_)
    refine wpAnyH_take (i := 0) (oi := Oper.mk _ _ _ _ _ _) (v := ?_) rfl (by kernel_rfl) (by kernel_rfl) (by kernel_rfl) (fun _ _ _ h => h) (Or.inl ⟨by rfl, ?_⟩) (by assumption) ?_
    rotate_left
    · intro w hSw
      try dsimp only at hSw
      go_simp
      all_goals with_reducible rfl
    try simp only [Act.put, List.setIfInBounds_toArray, List.set_cons_zero, List.set_cons_succ]
    refine wpAnyH_ready (rs := [1]) (by kernel_rfl) (by simp) ?_
    refine AllReadyH.cons (o := Oper.mk _ _ _ _ _ _) rfl (fun K hK => ?_) AllReadyH.nil
    go_simp
    refine Calls.mono (HR.out _) ?_
    rintro e w1 ⟨rfl, hb1⟩
    have S1 := mkHid (And.intro (hB2.out.trans ((re (w := V) hb1 rfl rfl rfl rfl).mono hB2.out.size)) (And.intro (blk_below e1 (re (w := V) hb1 rfl rfl rfl rfl)) (blk_below e2 (re (w := V) hb1 rfl rfl rfl rfl))))
    clear hb1
    refine hK.out _ _ (cel2 S1.out.2.2) (fun hHeld => ?_)
    clear hK K
    try simp only [Act.put, List.setIfInBounds_toArray, List.set_cons_zero, List.set_cons_succ]
    refine wpAnyH_take (i := 2) (oi := Oper.mk _ _ _ _ _ _) (v := ?_) rfl (by kernel_rfl) (by kernel_rfl) (by kernel_rfl) (fun _ _ _ h => h) (Or.inl ⟨by rfl, ?_⟩) (by assumption) ?_
    rotate_left
    · intro w hSw
      try dsimp only at hSw
      go_simp
      all_goals with_reducible rfl
    try simp only [Act.put, List.setIfInBounds_toArray, List.set_cons_zero, List.set_cons_succ]
    refine wpAnyH_take (i := 3) (oi := Oper.mk _ _ _ _ _ _) (v := ?_) rfl (by kernel_rfl) (by kernel_rfl) (by kernel_rfl) (fun _ _ _ h => h) (Or.inl ⟨by rfl, ?_⟩) (by assumption) ?_
    rotate_left
    · intro w hSw
      try dsimp only at hSw
      go_simp
      all_goals with_reducible rfl
    try simp only [Act.put, List.setIfInBounds_toArray, List.set_cons_zero, List.set_cons_succ]
    refine wpAnyH_take (i := 4) (oi := Oper.mk _ _ _ _ _ _) (v := undef) rfl (by kernel_rfl) (by kernel_rfl) (by kernel_rfl) (fun _ _ _ h => h) (Or.inr ⟨by rfl, rfl⟩) (by assumption) ?_
    try simp only [Act.put, List.setIfInBounds_toArray, List.set_cons_zero, List.set_cons_succ]
    refine wpAnyH_take (i := 5) (oi := Oper.mk _ _ _ _ _ _) (v := undef) rfl (by kernel_rfl) (by kernel_rfl) (by kernel_rfl) (fun _ _ _ h => h) (Or.inr ⟨by rfl, rfl⟩) (by assumption) ?_
    try simp only [Act.put, List.setIfInBounds_toArray, List.set_cons_zero, List.set_cons_succ]
    refine wpAnyH_take (i := 6) (oi := Oper.mk _ _ _ _ _ _) (v := undef) rfl (by kernel_rfl) (by kernel_rfl) (by kernel_rfl) (fun _ _ _ h => h) (Or.inr ⟨by rfl, rfl⟩) (by assumption) ?_
    try simp only [Act.put, List.setIfInBounds_toArray, List.set_cons_zero, List.set_cons_succ]
    refine wpAnyH_take (i := 7) (oi := Oper.mk _ _ _ _ _ _) (v := undef) rfl (by kernel_rfl) (by kernel_rfl) (by kernel_rfl) (fun _ _ _ h => h) (Or.inr ⟨by rfl, rfl⟩) (by assumption) ?_
    try simp only [Act.put, List.setIfInBounds_toArray, List.set_cons_zero, List.set_cons_succ]
    refine wpAnyH_take (i := 8) (oi := Oper.mk _ _ _ _ _ _) (v := undef) rfl (by kernel_rfl) (by kernel_rfl) (by kernel_rfl) (fun _ _ _ h => h) (Or.inr ⟨by rfl, rfl⟩) (by assumption) ?_
    try simp only [Act.put, List.setIfInBounds_toArray, List.set_cons_zero, List.set_cons_succ]
    refine wpAnyH_take (i := 9) (oi := Oper.mk _ _ _ _ _ _) (v := ?_) rfl (by kernel_rfl) (by kernel_rfl) (by kernel_rfl) (fun _ _ _ h => h) (Or.inl ⟨by rfl, ?_⟩) (by assumption) ?_
    rotate_left
    · intro w hSw
      try dsimp only at hSw
      go_simp
      all_goals with_reducible rfl
    try simp only [Act.put, List.setIfInBounds_toArray, List.set_cons_zero, List.set_cons_succ]
    refine wpAnyH_done (by kernel_rfl) ?_ _
    obtain ⟨q0, q1, q2⟩ := cel3 S1.out.2.1
    have qf := unfrozen S1.out.2.1
    have EE := mkHid (show outV (getP s x k a n) = .agg #[.int .i64 0, .string ⟨#[]⟩, .int .i64 5] by rw [E.out, if_neg (by rw [hR]; simp)]; rfl)
    go_wp2
    exact bodyPost_ret (v := .agg #[.int .i64 0, .string ⟨#[]⟩, .int .i64 5]) (by simp [results, Tryd.results17, go_sem, q0, q1, q2]) rfl ⟨ret_eq EE.out.symm, below_set3 S1.out.1 (by omega) S1.out.1.size _ _ _⟩
  · rw [hR] at HR
    by_cases hK : bKey (k, t) = x
    · rw [hK] at HK
      have hne : (!x.toList == x.toList) = false := by simp
      go_wp2_with fail
      go_region_held3 (fun w' => w'.cell? ⟨w.heap.size + 2, 0, none⟩ = some (.int .i64 k) ∧ w'.cell? ⟨w.heap.size + 2, 1, none⟩ = some (.string t) ∧ w'.cell? ⟨w.heap.size, 0, none⟩ = some (.string x)) (go_keep)
        ((first
          | (go_at_call 32; refine Calls.mono (HR.out _) ?_; rintro e w1 ⟨rfl, hb1⟩; have S1 := mkHid (And.intro (hB2.out.trans ((re (w := V) hb1 rfl rfl rfl rfl).mono hB2.out.size)) (And.intro (blk_below e0 (re (w := V) hb1 rfl rfl rfl rfl)) (And.intro (blk_below e1 (re (w := V) hb1 rfl rfl rfl rfl)) (blk_below e2 (re (w := V) hb1 rfl rfl rfl rfl))))); obtain ⟨g0, g1⟩ := cel2 S1.out.2.2.2; have g2 := (cel4 S1.out.2.1).1; clear hb1)
          | (go_at_call 33; refine Calls.mono (HK.out _) ?_; rintro e w2 ⟨rfl, hb2⟩; have S2 := mkHid (And.intro (S1.out.1.trans ((re (w := w1) hb2 rfl rfl rfl rfl).mono S1.out.1.size)) (And.intro (blk_below S1.out.2.1 (re (w := w1) hb2 rfl rfl rfl rfl)) (And.intro (blk_below S1.out.2.2.1 (re (w := w1) hb2 rfl rfl rfl rfl)) (blk_below S1.out.2.2.2 (re (w := w1) hb2 rfl rfl rfl rfl))))); obtain ⟨i0, i1⟩ := cel2 S2.out.2.2.2; have i2 := (cel4 S2.out.2.1).1; clear hb2)))
      obtain ⟨q0, q1, q2⟩ := cel3 S2.out.2.2.1
      have qf := unfrozen S2.out.2.2.1
      have EE := mkHid (show outV (getP s x k a n) = .agg #[.int .i64 k, .string t, .int .i64 0] by rw [E.out, if_pos ⟨hR, hK⟩]; rfl)
      clear g0 g1 g2 f0 f1 f2
      go_wp2
      exact bodyPost_ret (v := .agg #[.int .i64 k, .string t, .int .i64 0]) (by simp [results, Tryd.results17, go_sem, q0, q1, q2]) rfl ⟨ret_eq EE.out.symm, below_set3 S2.out.1 (by omega) S2.out.1.size _ _ _⟩
    · have hne : (!(bKey (k, t)).toList == x.toList) = true := by simp [bytes_ne hK]
      go_wp2_with fail
      go_region_held3 (fun w' => w'.cell? ⟨w.heap.size + 2, 0, none⟩ = some (.int .i64 k) ∧ w'.cell? ⟨w.heap.size + 2, 1, none⟩ = some (.string t) ∧ w'.cell? ⟨w.heap.size, 0, none⟩ = some (.string x)) (go_keep)
        ((first
          | (go_at_call 32; refine Calls.mono (HR.out _) ?_; rintro e w1 ⟨rfl, hb1⟩; have S1 := mkHid (And.intro (hB2.out.trans ((re (w := V) hb1 rfl rfl rfl rfl).mono hB2.out.size)) (And.intro (blk_below e0 (re (w := V) hb1 rfl rfl rfl rfl)) (And.intro (blk_below e1 (re (w := V) hb1 rfl rfl rfl rfl)) (blk_below e2 (re (w := V) hb1 rfl rfl rfl rfl))))); obtain ⟨g0, g1⟩ := cel2 S1.out.2.2.2; have g2 := (cel4 S1.out.2.1).1; clear hb1)
          | (go_at_call 33; refine Calls.mono (HK.out _) ?_; rintro e w2 ⟨rfl, hb2⟩; have S2 := mkHid (And.intro (S1.out.1.trans ((re (w := w1) hb2 rfl rfl rfl rfl).mono S1.out.1.size)) (And.intro (blk_below S1.out.2.1 (re (w := w1) hb2 rfl rfl rfl rfl)) (And.intro (blk_below S1.out.2.2.1 (re (w := w1) hb2 rfl rfl rfl rfl)) (blk_below S1.out.2.2.2 (re (w := w1) hb2 rfl rfl rfl rfl))))); obtain ⟨i0, i1⟩ := cel2 S2.out.2.2.2; have i2 := (cel4 S2.out.2.1).1; clear hb2)))
      obtain ⟨q0, q1, q2⟩ := cel3 S2.out.2.2.1
      have qf := unfrozen S2.out.2.2.1
      have EE := mkHid (show outV (getP s x k a n) = .agg #[.int .i64 0, .string ⟨#[]⟩, .int .i64 5] by rw [E.out, if_neg (fun h => hK h.2)]; rfl)
      clear g0 g1 g2 f0 f1 f2
      go_wp2
      exact bodyPost_ret (v := .agg #[.int .i64 0, .string ⟨#[]⟩, .int .i64 5]) (by simp [results, Tryd.results17, go_sem, q0, q1, q2]) rfl ⟨ret_eq EE.out.symm, below_set3 S2.out.1 (by omega) S2.out.1.size _ _ _⟩
end Go.Proofs.YtlmhdebjmkcanabDoor.pack
namespace Go.Proofs.YtlmhdebjmkcanabDoor.pack
open Go.RowKit Go.Joins
open Go.Proofs.YtlmhdebjmkcanabDoor.base Go.Proofs.YtlmhdebjmkcanabDoor.blk Go.Proofs.YtlmhdebjmkcanabDoor.aid
open Go.Proofs.YtlmhdebjmkcanabDoor.sha (digest GV)
set_option linter.unusedVariables false

set_option maxRecDepth 100000 in
theorem get_impl_no (s x : ByteArray) (k a n : Int) (w : World) (hs : s.size ≤ 1048576) (h : 20000 < (s.size : Int) ∨ (a < 0 ∨ n < 0 ∨ 2000 < n ∨ (s.size : Int) - n < a)) :
    Calls Tryd.prog 19 #[.string s, .agg #[.string x, .int .i64 k, .int .i64 a, .int .i64 n]] w fun e w' => e = .returned (outV (getP s x k a n)) ∧ Below w.heap.size w w' := by
  by_cases h1 : 20000 < (s.size : Int)
  · have E : getP s x k a n = (0, ⟨#[]⟩, 2) := by unfold getP; rw [if_pos (by omega)]
    rw [E]
    clear E
    go_enter Tryd.func19, Tryd.ntmps19
    go_wp2
    exact bodyPost_ret (v := .agg #[.int .i64 0, .string ⟨#[]⟩, .int .i64 2]) (by simp [results, Tryd.results19, go_sem]) rfl ⟨rfl, lwb.below2 _ _ _⟩
  · have h2 := h.resolve_left h1
    have E : getP s x k a n = (0, ⟨#[]⟩, 9) := by unfold getP; rw [if_neg (by omega), if_pos h2]
    rw [E]
    have hs1 : (s.size : Int) ≤ 20000 := by omega
    clear E h hs
    rcases four h2 with g | ⟨g1, g2⟩ | ⟨g1, g2, g3⟩ | ⟨g1, g2, g3, g4⟩
    all_goals clear h2
    all_goals go_enter Tryd.func19, Tryd.ntmps19
    all_goals go_wp2
    all_goals exact bodyPost_ret (v := .agg #[.int .i64 0, .string ⟨#[]⟩, .int .i64 9]) (by simp [results, Tryd.results19, go_sem]) rfl ⟨rfl, lwb.below2 _ _ _⟩

set_option maxRecDepth 100000 in
set_option maxHeartbeats 1000000 in
theorem blobAt_any (s x : ByteArray) (k : Int) (a n : Nat) (w : World) (hs : s.size ≤ 20000) (ha : a + n ≤ s.size) :
    Calls Tryd.prog 34 #[.string s, .agg #[.string x, .int .i64 k, .int .i64 a, .int .i64 n]] w fun e w' => e = .returned (.agg #[.int .i64 k, .string (s.extract a (a + n))]) ∧ Below w.heap.size w w' := by
  have h1 : (s.size : Int) ≤ 20000 := by omega
  have h3 : (a : Int) + (n : Int) ≤ (s.size : Int) := by omega
  have hsl := slice_is s a n ha
  have hwr : IntKind.i64.wrap ((a : Int) + (n : Int)) = (a : Int) + (n : Int) := by rw [IntKind.wrap_i64]; omega
  have HC := mkHid (fun wx => clone.clone_any (s.extract a (a + n)) wx (by simp; omega))
  clear hs ha
  generalize s.extract a (a + n) = t at *
  go_enter Tryd.func34, Tryd.ntmps34
  go_wp2_with fail
  have b0 := blk_old (blk_new w (.cells #[.string x, .int .i64 k, .int .i64 (a : Int), .int .i64 (n : Int)] 41) w.heap.size rfl) (.cells #[.int .i64 0, .string ⟨#[]⟩] 37)
  have b1 := blk_new (w.alloc (.cells #[.string x, .int .i64 k, .int .i64 (a : Int), .int .i64 (n : Int)] 41)) (.cells #[.int .i64 0, .string ⟨#[]⟩] 37) (w.heap.size + 1) (by simp)
  have hB := mkHid (lwb.below2 w (.cells #[.string x, .int .i64 k, .int .i64 (a : Int), .int .i64 (n : Int)] 41) (.cells #[.int .i64 0, .string ⟨#[]⟩] 37))
  generalize (w.alloc (.cells #[.string x, .int .i64 k, .int .i64 (a : Int), .int .i64 (n : Int)] 41)).alloc (.cells #[.int .i64 0, .string ⟨#[]⟩] 37) = W at *
  obtain ⟨c0, c1, c2, c3⟩ := cel4 b0
  go_region_held3 (fun w' => w'.cell? ⟨w.heap.size, 1, none⟩ = some (.int .i64 k) ∧ w'.cell? ⟨w.heap.size, 2, none⟩ = some (.int .i64 (a : Int)) ∧ w'.cell? ⟨w.heap.size, 3, none⟩ = some (.int .i64 (n : Int))) (go_keep)
    ((first
      | (go_at_call 45; refine Calls.mono (HC.out _) ?_; rintro e w1 ⟨rfl, hb1⟩; have S1 := mkHid (And.intro (hB.out.trans ((re (w := W) hb1 rfl rfl rfl rfl).mono hB.out.size)) (And.intro (blk_below b0 (re (w := W) hb1 rfl rfl rfl rfl)) (blk_below b1 (re (w := W) hb1 rfl rfl rfl rfl)))); obtain ⟨i0, i1, i2, i3⟩ := cel4 S1.out.2.1; obtain ⟨q0, q1⟩ := cel2 S1.out.2.2; have qf := unfrozen S1.out.2.2; clear hb1)))
  go_wp2
  exact bodyPost_ret (v := .agg #[.int .i64 k, .string t]) (by simp [results, Tryd.results34, go_sem, q0, q1]) rfl ⟨rfl, below_cell (below_cell S1.out.1 (by omega) S1.out.1.size _) (by omega) (by simpa using S1.out.1.size) _⟩
set_option maxRecDepth 100000 in
set_option maxHeartbeats 2000000 in
theorem get_impl_in (s x : ByteArray) (k : Int) (a n : Nat) (w : World) (I : himpl.IDigest) (hG : GV w) (hs : s.size ≤ 20000) (hn : n ≤ 2000) (ha : a + n ≤ s.size) :
    Calls Tryd.prog 19 #[.string s, .agg #[.string x, .int .i64 k, .int .i64 a, .int .i64 n]] w fun e w' => e = .returned (outV (getP s x k a n)) ∧ Below w.heap.size w w' := by
  have h1 : (s.size : Int) ≤ 20000 := by omega
  have h2 : (n : Int) ≤ 2000 := by omega
  have h3 : (a : Int) + (n : Int) ≤ (s.size : Int) := by omega
  have h4 : (a : Int) ≤ (s.size : Int) - (n : Int) := by omega
  have hsl := slice_is s a n ha
  have HR := mkHid (fun wx => right_impl k (s.extract a (a + n)) wx)
  have HK := mkHid (fun wx (hb : Below w.heap.size w wx) => key_impl k (s.extract a (a + n)) wx I (hG.below hb hG.lt))
  have HB := mkHid (fun wx => blobAt_any s x k a n wx hs ha)
  have E : Hid (getP s x k a n = if bRight (k, s.extract a (a + n)) = true ∧ bKey (k, s.extract a (a + n)) = x then (k, s.extract a (a + n), 0) else (0, ⟨#[]⟩, 5)) := mkHid (by
    unfold getP
    rw [if_neg (by omega), if_neg (by omega)]
    simp)
  clear hs hn ha hG I
  generalize s.extract a (a + n) = t at *
  go_enter Tryd.func19, Tryd.ntmps19
  go_wp2_with fail
  refine (HB.out _).mono ?_
  rintro e w0 ⟨rfl, hb0⟩
  have b0 := blk_below (blk_old (blk_new w (.cells #[.string x, .int .i64 k, .int .i64 (a : Int), .int .i64 (n : Int)] 41) w.heap.size rfl) (.cells #[.int .i64 0, .string ⟨#[]⟩, .int .i64 0] 39)) hb0
  have b1 := blk_below (blk_new (w.alloc (.cells #[.string x, .int .i64 k, .int .i64 (a : Int), .int .i64 (n : Int)] 41)) (.cells #[.int .i64 0, .string ⟨#[]⟩, .int .i64 0] 39) (w.heap.size + 1) (by simp)) hb0
  have hB := mkHid (below_allocs (os := [_, _]) hb0)
  clear hb0 HB
  go_wp2_with fail
  have e0 := blk_old b0 (.cells #[.int .i64 k, .string t] 37)
  have e1 := blk_old b1 (.cells #[.int .i64 k, .string t] 37)
  have e2 := blk_new w0 (.cells #[.int .i64 k, .string t] 37) w0.heap.size rfl
  have hB2 := mkHid (hB.out.alloc hB.out.size (.cells #[.int .i64 k, .string t] 37))
  have hZ : w.heap.size ≤ w0.heap.size := hB.out.size
  generalize w0.alloc (.cells #[.int .i64 k, .string t] 37) = V at *
  generalize w0.heap.size = Z at *
  clear b0 b1 hB
  obtain ⟨f0, f1⟩ := cel2 e2
  have f2 := (cel4 e0).1
  cases hR : bRight (k, t)
  · rw [hR] at HR
    go_wp2_with fail
    refine wp_region_held_drew (S := (fun w' => w'.cell? ⟨Z, 0, none⟩ = some (.int .i64 k) ∧ w'.cell? ⟨Z, 1, none⟩ = some (.string t))) (by kernel_rfl) (by exact ⟨f0, f1⟩) (fun hHeld => ?_)
    refine wpAnyH_take (i := 0) (oi := Oper.mk _ _ _ _ _ _) (v := ?_) rfl (by kernel_rfl) (by kernel_rfl) (by kernel_rfl) (fun _ _ _ h => h) (Or.inl ⟨by rfl, ?_⟩) (by assumption) ?_
    rotate_left
    · intro w hSw
      try dsimp only at hSw
      go_simp
      all_goals with_reducible rfl
    try simp only [Act.put, List.setIfInBounds_toArray, List.set_cons_zero, List.set_cons_succ]
    refine wpAnyH_ready (rs := [1]) (by kernel_rfl) (by simp) ?_
    refine AllReadyH.cons (o := Oper.mk _ _ _ _ _ _) rfl (fun K hK => ?_) AllReadyH.nil
    go_simp
    refine Calls.mono (HR.out _) ?_
    rintro e w1 ⟨rfl, hb1⟩
    have S1 := mkHid (And.intro (hB2.out.trans ((re (w := V) hb1 rfl rfl rfl rfl).mono hB2.out.size)) (And.intro (blk_below e1 (re (w := V) hb1 rfl rfl rfl rfl)) (blk_below e2 (re (w := V) hb1 rfl rfl rfl rfl))))
    clear hb1
    refine hK.out _ _ (cel2 S1.out.2.2) (fun hHeld => ?_)
    clear hK K
    try simp only [Act.put, List.setIfInBounds_toArray, List.set_cons_zero, List.set_cons_succ]
    refine wpAnyH_take (i := 2) (oi := Oper.mk _ _ _ _ _ _) (v := ?_) rfl (by kernel_rfl) (by kernel_rfl) (by kernel_rfl) (fun _ _ _ h => h) (Or.inl ⟨by rfl, ?_⟩) (by assumption) ?_
    rotate_left
    · intro w hSw
      try dsimp only at hSw
      go_simp
      all_goals with_reducible rfl
    try simp only [Act.put, List.setIfInBounds_toArray, List.set_cons_zero, List.set_cons_succ]
    refine wpAnyH_take (i := 3) (oi := Oper.mk _ _ _ _ _ _) (v := ?_) rfl (by kernel_rfl) (by kernel_rfl) (by kernel_rfl) (fun _ _ _ h => h) (Or.inl ⟨by rfl, ?_⟩) (by assumption) ?_
    rotate_left
    · intro w hSw
      try dsimp only at hSw
      go_simp
      all_goals with_reducible rfl
    try simp only [Act.put, List.setIfInBounds_toArray, List.set_cons_zero, List.set_cons_succ]
    refine wpAnyH_take (i := 4) (oi := Oper.mk _ _ _ _ _ _) (v := undef) rfl (by kernel_rfl) (by kernel_rfl) (by kernel_rfl) (fun _ _ _ h => h) (Or.inr ⟨by rfl, rfl⟩) (by assumption) ?_
    try simp only [Act.put, List.setIfInBounds_toArray, List.set_cons_zero, List.set_cons_succ]
    refine wpAnyH_take (i := 5) (oi := Oper.mk _ _ _ _ _ _) (v := undef) rfl (by kernel_rfl) (by kernel_rfl) (by kernel_rfl) (fun _ _ _ h => h) (Or.inr ⟨by rfl, rfl⟩) (by assumption) ?_
    try simp only [Act.put, List.setIfInBounds_toArray, List.set_cons_zero, List.set_cons_succ]
    refine wpAnyH_take (i := 6) (oi := Oper.mk _ _ _ _ _ _) (v := undef) rfl (by kernel_rfl) (by kernel_rfl) (by kernel_rfl) (fun _ _ _ h => h) (Or.inr ⟨by rfl, rfl⟩) (by assumption) ?_
    try simp only [Act.put, List.setIfInBounds_toArray, List.set_cons_zero, List.set_cons_succ]
    refine wpAnyH_take (i := 7) (oi := Oper.mk _ _ _ _ _ _) (v := undef) rfl (by kernel_rfl) (by kernel_rfl) (by kernel_rfl) (fun _ _ _ h => h) (Or.inr ⟨by rfl, rfl⟩) (by assumption) ?_
    try simp only [Act.put, List.setIfInBounds_toArray, List.set_cons_zero, List.set_cons_succ]
    refine wpAnyH_take (i := 8) (oi := Oper.mk _ _ _ _ _ _) (v := undef) rfl (by kernel_rfl) (by kernel_rfl) (by kernel_rfl) (fun _ _ _ h => h) (Or.inr ⟨by rfl, rfl⟩) (by assumption) ?_
    try simp only [Act.put, List.setIfInBounds_toArray, List.set_cons_zero, List.set_cons_succ]
    refine wpAnyH_take (i := 9) (oi := Oper.mk _ _ _ _ _ _) (v := ?_) rfl (by kernel_rfl) (by kernel_rfl) (by kernel_rfl) (fun _ _ _ h => h) (Or.inl ⟨by rfl, ?_⟩) (by assumption) ?_
    rotate_left
    · intro w hSw
      try dsimp only at hSw
      go_simp
      all_goals with_reducible rfl
    try simp only [Act.put, List.setIfInBounds_toArray, List.set_cons_zero, List.set_cons_succ]
    refine wpAnyH_done (by kernel_rfl) ?_ _
    obtain ⟨q0, q1, q2⟩ := cel3 S1.out.2.1
    have qf := unfrozen S1.out.2.1
    have EE := mkHid (show outV (getP s x k a n) = .agg #[.int .i64 0, .string ⟨#[]⟩, .int .i64 5] by rw [E.out, if_neg (by rw [hR]; simp)]; rfl)
    go_wp2
    exact bodyPost_ret (v := .agg #[.int .i64 0, .string ⟨#[]⟩, .int .i64 5]) (by simp [results, Tryd.results19, go_sem, q0, q1, q2]) rfl ⟨ret_eq EE.out.symm, below_set3 S1.out.1 (by omega) S1.out.1.size _ _ _⟩
  · rw [hR] at HR
    by_cases hK : bKey (k, t) = x
    · rw [hK] at HK
      have hne : (!x.toList == x.toList) = false := by simp
      go_wp2_with fail
      go_region_held3 (fun w' => w'.cell? ⟨Z, 0, none⟩ = some (.int .i64 k) ∧ w'.cell? ⟨Z, 1, none⟩ = some (.string t) ∧ w'.cell? ⟨w.heap.size, 0, none⟩ = some (.string x)) (go_keep)
        ((first
          | (go_at_call 35; refine Calls.mono (HR.out _) ?_; rintro e w1 ⟨rfl, hb1⟩; have S1 := mkHid (And.intro (hB2.out.trans ((re (w := V) hb1 rfl rfl rfl rfl).mono hB2.out.size)) (And.intro (blk_below e0 (re (w := V) hb1 rfl rfl rfl rfl)) (And.intro (blk_below e1 (re (w := V) hb1 rfl rfl rfl rfl)) (blk_below e2 (re (w := V) hb1 rfl rfl rfl rfl))))); obtain ⟨g0, g1⟩ := cel2 S1.out.2.2.2; have g2 := (cel4 S1.out.2.1).1; clear hb1)
          | (go_at_call 36; refine Calls.mono (HK.out _ (by first | exact S1.out.1 | exact S1.out.1.drew)) ?_; rintro e w2 ⟨rfl, hb2⟩; have S2 := mkHid (And.intro (S1.out.1.trans ((re (w := w1) hb2 rfl rfl rfl rfl).mono S1.out.1.size)) (And.intro (blk_below S1.out.2.1 (re (w := w1) hb2 rfl rfl rfl rfl)) (And.intro (blk_below S1.out.2.2.1 (re (w := w1) hb2 rfl rfl rfl rfl)) (blk_below S1.out.2.2.2 (re (w := w1) hb2 rfl rfl rfl rfl))))); obtain ⟨i0, i1⟩ := cel2 S2.out.2.2.2; have i2 := (cel4 S2.out.2.1).1; clear hb2)))
      obtain ⟨q0, q1, q2⟩ := cel3 S2.out.2.2.1
      have qf := unfrozen S2.out.2.2.1
      have EE := mkHid (show outV (getP s x k a n) = .agg #[.int .i64 k, .string t, .int .i64 0] by rw [E.out, if_pos ⟨hR, hK⟩]; rfl)
      clear g0 g1 g2 f0 f1 f2
      go_wp2
      exact bodyPost_ret (v := .agg #[.int .i64 k, .string t, .int .i64 0]) (by simp [results, Tryd.results19, go_sem, q0, q1, q2]) rfl ⟨ret_eq EE.out.symm, below_set3 S2.out.1 (by omega) S2.out.1.size _ _ _⟩
    · have hne : (!(bKey (k, t)).toList == x.toList) = true := by simp [bytes_ne hK]
      go_wp2_with fail
      go_region_held3 (fun w' => w'.cell? ⟨Z, 0, none⟩ = some (.int .i64 k) ∧ w'.cell? ⟨Z, 1, none⟩ = some (.string t) ∧ w'.cell? ⟨w.heap.size, 0, none⟩ = some (.string x)) (go_keep)
        ((first
          | (go_at_call 35; refine Calls.mono (HR.out _) ?_; rintro e w1 ⟨rfl, hb1⟩; have S1 := mkHid (And.intro (hB2.out.trans ((re (w := V) hb1 rfl rfl rfl rfl).mono hB2.out.size)) (And.intro (blk_below e0 (re (w := V) hb1 rfl rfl rfl rfl)) (And.intro (blk_below e1 (re (w := V) hb1 rfl rfl rfl rfl)) (blk_below e2 (re (w := V) hb1 rfl rfl rfl rfl))))); obtain ⟨g0, g1⟩ := cel2 S1.out.2.2.2; have g2 := (cel4 S1.out.2.1).1; clear hb1)
          | (go_at_call 36; refine Calls.mono (HK.out _ (by first | exact S1.out.1 | exact S1.out.1.drew)) ?_; rintro e w2 ⟨rfl, hb2⟩; have S2 := mkHid (And.intro (S1.out.1.trans ((re (w := w1) hb2 rfl rfl rfl rfl).mono S1.out.1.size)) (And.intro (blk_below S1.out.2.1 (re (w := w1) hb2 rfl rfl rfl rfl)) (And.intro (blk_below S1.out.2.2.1 (re (w := w1) hb2 rfl rfl rfl rfl)) (blk_below S1.out.2.2.2 (re (w := w1) hb2 rfl rfl rfl rfl))))); obtain ⟨i0, i1⟩ := cel2 S2.out.2.2.2; have i2 := (cel4 S2.out.2.1).1; clear hb2)))
      obtain ⟨q0, q1, q2⟩ := cel3 S2.out.2.2.1
      have qf := unfrozen S2.out.2.2.1
      have EE := mkHid (show outV (getP s x k a n) = .agg #[.int .i64 0, .string ⟨#[]⟩, .int .i64 5] by rw [E.out, if_neg (fun h => hK h.2)]; rfl)
      clear g0 g1 g2 f0 f1 f2
      go_wp2
      exact bodyPost_ret (v := .agg #[.int .i64 0, .string ⟨#[]⟩, .int .i64 5]) (by simp [results, Tryd.results19, go_sem, q0, q1, q2]) rfl ⟨ret_eq EE.out.symm, below_set3 S2.out.1 (by omega) S2.out.1.size _ _ _⟩
end Go.Proofs.YtlmhdebjmkcanabDoor.pack
