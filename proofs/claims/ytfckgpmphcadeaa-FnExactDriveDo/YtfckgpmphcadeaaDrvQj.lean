/-
  What slices.Insert answers and leaves of one file. Conditions: a row of our own of at most 1,048,576 files; the file that is put in lies in a block of its own.
-/
import Derived.Test.YtfckgpmphcadeaaDrvQi
namespace Go.Proofs.Ytfckgpmphcadeaa.drv
open Go.RowKit Go.Joins Go.Sort
open Go.Proofs.Ytfckgpmphcadeaa.base Go.Proofs.Ytfckgpmphcadeaa.blk Go.Proofs.Ytfckgpmphcadeaa.aid
open Go.Proofs.Ytfckgpmphcadeaa.row (Rd Own OwnV appSem app_fold)
open Go.Proofs.Ytfckgpmphcadeaa.rwStored (cs)
set_option linter.unusedVariables false
set_option linter.unusedSimpArgs false

/-- a row of our own with one file more -/
def IPost (w : World) (base : Nat) (v : Value) (n : Nat) (l : List File) (e : Ending) (w' : World) : Prop :=
  ∃ g c, e = .returned (.slice (some ⟨g, 0, none⟩) n c) ∧ w'.ownsRow base 39 3 (.slice (some ⟨g, 0, none⟩) n c) n (cs l) ∧ w.grownBy w' v.ownBlock
attribute [local go_sem ↓] app_fold slice_fold copy_fold clear_fold
set_option maxRecDepth 100000 in
set_option maxHeartbeats 2000000 in
/-- at the end -/
theorem insert_end (base : Nat) (v : Value) (n vb : Nat) (l : List File) (x0 x1 : ByteArray) (x2 : Int) (w : World) (hn : l.length = n) (hl : n ≤ 1048576) (hb : base ≤ w.heap.size) (ho : w.ownsRow base 39 3 v n (cs l)) (hv : w.heap[vb]? = some (.cells #[.string x0, .string x1, .int .i64 x2] 39 (0, 0))) :
    Calls Try.prog 143 #[v, .int .i64 (n : Int), .slice (some ⟨vb, 0, none⟩) 1 1] w (IPost w base v (n + 1) (ins l n (x0, x1, x2))) := by
  obtain ⟨g, c, w2, happ, hown, hgr⟩ := app_one w base v n l ho hb vb (x0, x1, x2) (one_rd hv) hl
  have hins : ins l n (x0, x1, x2) = l ++ [(x0, x1, x2)] := by unfold ins; rw [List.take_of_length_le (by omega), List.drop_of_length_le (by omega)]
  have HP : Hid (IPost w base v (n + 1) (ins l n (x0, x1, x2)) (.returned (.slice (some ⟨g, 0, none⟩) (n + 1) c)) w2) := mkHid ⟨g, c, rfl, by rw [hins]; exact hown, hgr⟩
  rcases ownsRow_forms ho with ⟨rfl, h0⟩ | ⟨g', c', rfl⟩
  · subst h0
    have hS0 : ∀ wx, (sliceSem 23 (.slice none 0 0) (some (.int .i64 0)) none none).run Try.prog wx = .ok (.slice none 0 0) wx := fun wx => sl_lo none 0 0 0 (by omega) wx
    rw [Nat.zero_add] at happ
    clear hown hgr hv ho hins
    go_enter Try.func143, Try.ntmps143
    go_wp2
    go_ret
    exact HP.out
  · have hS0 := fun wx => sl_lo (some ⟨g', 0, none⟩) n c' n (by omega) wx
    clear hown hgr hv ho hins
    go_enter Try.func143, Try.ntmps143
    go_wp2
    go_ret
    exact HP.out
set_option maxRecDepth 100000 in
set_option maxHeartbeats 2000000 in
/-- in the middle, no room -/
theorem insert_grow (base g c i n vb : Nat) (l : List File) (x0 x1 : ByteArray) (x2 : Int) (w : World) (hn : l.length = n) (hi : i < n) (hl : n ≤ 1048576) (hb : base ≤ w.heap.size) (hroom : c < n + 1) (ho : w.ownsRow base 39 3 (.slice (some ⟨g, 0, none⟩) n c) n (cs l)) (hv : w.heap[vb]? = some (.cells #[.string x0, .string x1, .int .i64 x2] 39 (0, 0))) :
    Calls Try.prog 143 #[.slice (some ⟨g, 0, none⟩) n c, .int .i64 (i : Int), .slice (some ⟨vb, 0, none⟩) 1 1] w (IPost w base (.slice (some ⟨g, 0, none⟩) n c) (n + 1) (ins l i (x0, x1, x2))) := by
  have hnc := own_cap ho
  have hrd := (Own.owns ho).rd
  have hl1 : (cs (l.take i)).length = i * 3 := by rw [rwStored.cs_len, List.length_take]; omega
  have hl2 : (cs (l.drop i)).length = (n - i) * 3 := by rw [rwStored.cs_len, List.length_drop]; omega
  obtain ⟨C, w1, happ, ⟨zs, hB1⟩, hC, hCm, hb1⟩ := app_zeros w g c i n l hrd hn hi hroom hnc hl
  obtain ⟨v2, w2, hcp1, hB2, hg2⟩ := put_copy (o := i) (m := 1) hB1 (n + 1 - i) (C - i) (some ⟨vb, 0, none⟩) 1 1 (cs [(x0, x1, x2)]) (by simp only [Nat.min_def]; split <;> omega) (by rw [rwStored.cs_len]; rfl) ((one_rd hv).below hb1) (cs_one _) (by rw [rwStored.cs_len]; simp; omega)
  rw [lay3_app hl1] at hB2
  have hl3 : (cs (l.take i) ++ cs [(x0, x1, x2)]).length = (i + 1) * 3 := by rw [List.length_append, hl1, rwStored.cs_len]; simp; omega
  have hgl := (Own.owns ho).lt
  have hbA : Below w.heap.size w w2 := below_of_grew hb1 hb1.size hg2 (Nat.le_refl _)
  have hrd2 : Rd w2.drew (lo (some ⟨g, 0, none⟩) i c) (cs (l.drop i)) := rd_drop (c := c) (hrd.below (w' := w2.drew) ⟨hbA.os, hbA.tape, hbA.output, hbA.size, hbA.block⟩) i (by omega) (by omega)
  obtain ⟨v3, w3, hcp2, hB3, hg3⟩ := put_copy (w := w2.drew) (o := i + 1) (m := n - i) hB2 (n - i) (C - (i + 1)) (lo (some ⟨g, 0, none⟩) i c) (n - i) (c - i) (cs (l.drop i)) (by simp only [Nat.min_def]; split <;> omega) hl2 hrd2 (cs_one _) (by rw [hl2]; omega)
  rw [lay3_app hl3, ← cs_ins] at hB3
  have hbB : Below w.heap.size w w3 := below_of_grew hbA hbA.size (grew_from (w := w2) hg3 rfl rfl rfl rfl) (Nat.le_refl _)
  have HP : Hid (IPost w base (.slice (some ⟨g, 0, none⟩) n c) (n + 1) (ins l i (x0, x1, x2)) (.returned (.slice (some ⟨w.heap.size, 0, none⟩) (n + 1) C)) w3) := mkHid ⟨w.heap.size, C, rfl, B3.owns hB3 hb (by rw [ins_len (by omega)]; omega) (by omega) hCm, below_grew hbB _⟩
  have hS0 := fun wx => sl_lo (some ⟨g, 0, none⟩) n c i (by omega) wx
  have hS1 := fun wx => sl_hi (some ⟨g, 0, none⟩) n c i (by omega) wx
  have hS2 := fun wx => sl_lo (some ⟨w.heap.size, 0, none⟩) (n + 1) C i (by omega) wx
  have hS3 := fun wx => sl_lo (some ⟨w.heap.size, 0, none⟩) (n + 1) C (i + 1) (by omega) wx
  rw [lo_ne (by omega)] at hS2 hS3
  rw [show n + 1 - (i + 1) = n - i by omega, show ((i + 1 : Nat) : Int) = (i : Int) + 1 by omega] at hS3
  have z1 : ¬ (i : Int) = (n : Int) := by omega
  have z2 : (c : Int) < (n : Int) + 1 := by omega
  have z3 : IntKind.i64.wrap ((n : Int) + 1) = (n : Int) + 1 := by rw [IntKind.wrap_i64]; omega
  have z4 : IntKind.i64.wrap ((n : Int) + 1 - (i : Int)) = (n : Int) + 1 - (i : Int) := by rw [IntKind.wrap_i64]; omega
  have z5 : IntKind.i64.wrap ((i : Int) + 1) = (i : Int) + 1 := by rw [IntKind.wrap_i64]; omega
  clear hB1 hB2 hB3 hb1 hg2 hg3 hbA hbB hrd hrd2 ho hv hl1 hl2 hl3
  generalize n + 1 - i = m at *
  generalize n - i = m2 at *
  go_enter Try.func143, Try.ntmps143
  go_wp2_with fail
  go_region
  go_wp2
  go_ret
  exact HP.out
set_option maxRecDepth 100000 in
theorem apart_any (vb g o lb cb : Nat) (w : World) (x0 x1 : ByteArray) (x2 : Int) (xs : List Value) (c : Nat) (hne : vb ≠ g) (hv : w.heap[vb]? = some (.cells #[.string x0, .string x1, .int .i64 x2] 39 (0, 0))) (hB : B3 w g c xs) (hc : 0 < c) :
    (callFunc 153 #[.slice (some ⟨vb, 0, none⟩) 1 1, .slice (some ⟨g, o, none⟩) lb cb]).run Try.prog w = .ok (.value (.bool false)) w := by
  rw [run_callFunc_extern (P := Try.prog) Try.func153 (by kernel_rfl) (by kernel_rfl) (by kernel_rfl) (e := Extern.SlicesOverlaps.overlaps #[23, 23] #[4]) (by kernel_rfl),
    Lib.run_overlaps_apart w 23 4 39 Try.underlying23 3 size_is ⟨vb, 0, none⟩ ⟨g, o, none⟩ 1 1 lb cb hne 39 39 3 (c * 3) (by simp [World.shape?, hv]) (by simp [World.shape?, hB.1, hB.2]) (by omega) (unfrozen hv 0) (unfrozen hv 3)]
  rfl
set_option maxRecDepth 100000 in
set_option maxHeartbeats 2000000 in
/-- in the middle, with room -/
theorem insert_shift (base g c i n vb : Nat) (l : List File) (x0 x1 : ByteArray) (x2 : Int) (w : World) (hn : l.length = n) (hi : i < n) (hl : n ≤ 1048576) (hroom : n + 1 ≤ c) (hne : vb ≠ g) (ho : w.ownsRow base 39 3 (.slice (some ⟨g, 0, none⟩) n c) n (cs l)) (hv : w.heap[vb]? = some (.cells #[.string x0, .string x1, .int .i64 x2] 39 (0, 0))) :
    Calls Try.prog 143 #[.slice (some ⟨g, 0, none⟩) n c, .int .i64 (i : Int), .slice (some ⟨vb, 0, none⟩) 1 1] w (IPost w base (.slice (some ⟨g, 0, none⟩) n c) (n + 1) (ins l i (x0, x1, x2))) := by
  obtain ⟨ex, hB, hbg, hnc, hcm, _⟩ := B3.of ho
  have hl1 : (cs (l.take i)).length = i * 3 := by rw [rwStored.cs_len, List.length_take]; omega
  have hl2 : (cs (l.drop i)).length = (n - i) * 3 := by rw [rwStored.cs_len, List.length_drop]; omega
  have hSplit : cs l = cs (l.take i) ++ cs (l.drop i) := by rw [← rwStored.cs_app, List.take_append_drop]
  have hrd : Rd w.drew (some ⟨g, i * 3, none⟩) (cs (l.drop i)) := hB.rd (w := w.drew) hl1 ⟨ex, by rw [hSplit, List.append_assoc]⟩
  obtain ⟨v1, w1, hcp1, hB1, hg1⟩ := put_copy (w := w.drew) (o := i + 1) (m := n - i) hB (n - i) (c - (i + 1)) (some ⟨g, i * 3, none⟩) (n + 1 - i) (c - i) (cs (l.drop i)) (by simp only [Nat.min_def]; split <;> omega) hl2 hrd (cs_one _) (by rw [hl2]; omega)
  have hl3 : (cs l ++ ex).length = c * 3 := hB.2
  have hA : ∃ ys, lay3 (cs l ++ ex) ((i + 1) * 3) (cs (l.drop i)) = cs (l.take i) ++ ys ∧ ∃ zs, ys.drop 3 = cs (l.drop i) ++ zs := by
    refine ⟨((cs (l.drop i) ++ ex).take 3) ++ (cs (l.drop i) ++ (cs l ++ ex).drop ((i + 1) * 3 + (cs (l.drop i)).length)), ?_, (cs l ++ ex).drop ((i + 1) * 3 + (cs (l.drop i)).length), ?_⟩
    · unfold lay3
      rw [List.append_assoc, ← List.append_assoc (cs (l.take i))]
      congr 1
      rw [show cs l ++ ex = cs (l.take i) ++ (cs (l.drop i) ++ ex) by rw [hSplit, List.append_assoc], List.take_append, hl1, List.take_of_length_le (by omega)]
      congr 2
      omega
    · rw [List.drop_append, List.drop_of_length_le (by rw [List.length_take]; omega)]
      have : ((cs (l.drop i) ++ ex).take 3).length = 3 := by rw [List.length_take, List.length_append, hl2]; omega
      rw [this]
      simp
  obtain ⟨ys, hys, zs, hzs⟩ := hA
  rw [hys] at hB1
  have hv1 : w1.heap[vb]? = some (.cells #[.string x0, .string x1, .int .i64 x2] 39 (0, 0)) := (hg1.block vb (Array.getElem?_eq_some_iff.1 hv).1 (fun e => hne (by simpa using e))).trans hv
  obtain ⟨v2, w2, hcp2, hB2, hg2⟩ := put_copy (o := i) (m := 1) hB1 (n + 1 - i) (c - i) (some ⟨vb, 0, none⟩) 1 1 (cs [(x0, x1, x2)]) (by simp only [Nat.min_def]; split <;> omega) (by rw [rwStored.cs_len]; rfl) (one_rd hv1) (cs_one _) (by rw [rwStored.cs_len]; simp; omega)
  have h3 : (cs [(x0, x1, x2)]).length = 3 := by rw [rwStored.cs_len]; rfl
  rw [lay3_app hl1, h3, hzs, ← List.append_assoc, ← cs_ins] at hB2
  have HP : Hid (IPost w base (.slice (some ⟨g, 0, none⟩) n c) (n + 1) (ins l i (x0, x1, x2)) (.returned (.slice (some ⟨g, 0, none⟩) (n + 1) c)) w2) := mkHid ⟨g, c, rfl, B3.owns hB2 hbg (by rw [ins_len (by omega)]; omega) (by omega) hcm, grew_grew (grew_from (w := w) hg1 rfl rfl rfl rfl) hg2⟩
  have hov := fun lb cb => apart_any vb g ((i + 1) * 3) lb cb w x0 x1 x2 _ c hne hv hB (by omega)
  have hS0 := fun wx => sl_lo (some ⟨g, 0, none⟩) n c i (by omega) wx
  have hS1 := fun wx => sl_hi (some ⟨g, 0, none⟩) n c (n + 1) (by omega) wx
  have hS2 := fun wx => sl_lo (some ⟨g, 0, none⟩) (n + 1) c i (by omega) wx
  have hS3 := fun wx => sl_lo (some ⟨g, 0, none⟩) (n + 1) c (i + 1) (by omega) wx
  rw [lo_ne (by omega)] at hS0 hS2 hS3
  rw [show n + 1 - (i + 1) = n - i by omega, show ((i + 1 : Nat) : Int) = (i : Int) + 1 by omega] at hS3
  rw [show ((n + 1 : Nat) : Int) = (n : Int) + 1 by omega] at hS1
  have z1 : ¬ (i : Int) = (n : Int) := by omega
  have z2 : ¬ (c : Int) < (n : Int) + 1 := by omega
  have z3 : IntKind.i64.wrap ((n : Int) + 1) = (n : Int) + 1 := by rw [IntKind.wrap_i64]; omega
  have z5 : IntKind.i64.wrap ((i : Int) + 1) = (i : Int) + 1 := by rw [IntKind.wrap_i64]; omega
  clear hB hB1 hB2 hg1 hg2 hrd ho hv hv1 hl1 hl2 hl3 hSplit hys hzs h3
  generalize n + 1 - i = m at *
  generalize n - i = m2 at *
  go_enter Try.func143, Try.ntmps143
  go_wp2_with (simp only [hov])
  go_region
  go_wp2
  go_ret
  exact HP.out
theorem insert_any (base : Nat) (v : Value) (i n vb : Nat) (l : List File) (x0 x1 : ByteArray) (x2 : Int) (w : World) (hn : l.length = n) (hi : i ≤ n) (hl : n ≤ 1048576) (hb : base ≤ w.heap.size) (hne : v.ownBlock ≠ some vb) (ho : w.ownsRow base 39 3 v n (cs l)) (hv : w.heap[vb]? = some (.cells #[.string x0, .string x1, .int .i64 x2] 39 (0, 0))) :
    Calls Try.prog 143 #[v, .int .i64 (i : Int), .slice (some ⟨vb, 0, none⟩) 1 1] w (IPost w base v (n + 1) (ins l i (x0, x1, x2))) := by
  by_cases h : i = n
  · subst h
    exact insert_end base v i vb l x0 x1 x2 w hn hl hb ho hv
  · obtain ⟨g, c, rfl⟩ := row.ownsRow_form ho (by omega)
    by_cases hroom : n + 1 ≤ c
    · exact insert_shift base g c i n vb l x0 x1 x2 w hn (by omega) hl hroom (fun e => hne (by rw [e]; rfl)) ho hv
    · exact insert_grow base g c i n vb l x0 x1 x2 w hn (by omega) hl hb (by omega) ho hv
end Go.Proofs.Ytfckgpmphcadeaa.drv
