/-
  What the program's kinds of an op answer (file, restRight), what impl.actOf and impl.OpRight do. Conditions: texts of at most 1,048,576 bytes.
-/
import Derived.Test.YtfckgpmphcadeaaDrvIR
namespace Go.Proofs.Ytfckgpmphcadeaa.drv
open Go.RowKit Go.Joins Go.Sort
open Go.Proofs.Ytfckgpmphcadeaa.base Go.Proofs.Ytfckgpmphcadeaa.blk Go.Proofs.Ytfckgpmphcadeaa.aid
open Go.Proofs.Ytfckgpmphcadeaa.row (Rd Own OwnV)
open Go.Proofs.Ytfckgpmphcadeaa.rwStored (cs)
set_option linter.unusedVariables false

theorem own : ownKnob Try.prog.godebug = none := by kernel_rfl

theorem meth_wf (v : Value) (w : World) : (method 311 163 v "loop.example/g00259/impl.file").run Try.prog w = .ok (173, v) w := by kernel_rfl
theorem meth_wr (v : Value) (w : World) : (method 311 163 v "loop.example/g00259/impl.restRight").run Try.prog w = .ok (174, v) w := by kernel_rfl
theorem file_w (k : Int) (n t x : ByteArray) (w : World) :
    Calls Try.prog 173 #[.agg #[.int .i64 k, .string n, .string t, .string x]] w fun e w' => e = .returned (.string n) ∧ w' = w.alloc (.cells #[.int .i64 k, .string n, .string t, .string x] 163) := by
  go_enter Try.func173, Try.ntmps173
  go_wp2
  go_ret
  exact ⟨rfl, rfl⟩

theorem rest_w (k : Int) (n t x : ByteArray) (w : World) (h2 : t.size ≤ 1048576) (h3 : x.size ≤ 1048576) :
    Calls Try.prog 174 #[.agg #[.int .i64 k, .string n, .string t, .string x]] w fun e w' => e = .returned (.bool (decide (t = ⟨#[]⟩) && decide (x.size ≤ 20000))) ∧ w' = w.alloc (.cells #[.int .i64 k, .string n, .string t, .string x] 163) := by
  rcases empty_or t with rfl | ⟨ht, hte⟩
  · by_cases hx : x.size ≤ 20000
    · have hxi : (x.size : Int) ≤ 20000 := by omega
      go_enter Try.func174, Try.ntmps174
      go_wp2
      go_ret
      exact ⟨ret_eq (by simp [hx]), rfl⟩
    · have hxi : 20000 < (x.size : Int) := by omega
      go_enter Try.func174, Try.ntmps174
      go_wp2
      go_ret
      exact ⟨ret_eq (by simp [hx]; omega), rfl⟩
  · go_enter Try.func174, Try.ntmps174
    go_wp2
    go_ret
    exact ⟨ret_eq (by simp [ht]), rfl⟩

theorem meth_sf (v : Value) (w : World) : (method 311 164 v "loop.example/g00259/impl.file").run Try.prog w = .ok (176, v) w := by kernel_rfl
theorem meth_sr (v : Value) (w : World) : (method 311 164 v "loop.example/g00259/impl.restRight").run Try.prog w = .ok (177, v) w := by kernel_rfl
theorem file_s (k : Int) (n t x : ByteArray) (w : World) :
    Calls Try.prog 176 #[.agg #[.int .i64 k, .string n, .string t, .string x]] w fun e w' => e = .returned (.string n) ∧ w' = w.alloc (.cells #[.int .i64 k, .string n, .string t, .string x] 164) := by
  go_enter Try.func176, Try.ntmps176
  go_wp2
  go_ret
  exact ⟨rfl, rfl⟩

theorem rest_s (k : Int) (n t x : ByteArray) (w : World) (h2 : t.size ≤ 1048576) (h3 : x.size ≤ 1048576) :
    Calls Try.prog 177 #[.agg #[.int .i64 k, .string n, .string t, .string x]] w fun e w' => e = .returned (.bool (decide (t = ⟨#[]⟩) && decide (x = ⟨#[]⟩))) ∧ w' = w.alloc (.cells #[.int .i64 k, .string n, .string t, .string x] 164) := by
  rcases empty_or t with rfl | ⟨ht, hte⟩
  · rcases empty_or x with rfl | ⟨hx, hxe⟩
    · go_enter Try.func177, Try.ntmps177
      go_wp2
      go_ret
      exact ⟨ret_eq (by simp), rfl⟩
    · go_enter Try.func177, Try.ntmps177
      go_wp2
      go_ret
      exact ⟨ret_eq (by simp [hx]), rfl⟩
  · go_enter Try.func177, Try.ntmps177
    go_wp2
    go_ret
    exact ⟨ret_eq (by simp [ht]), rfl⟩

theorem meth_rf (v : Value) (w : World) : (method 311 165 v "loop.example/g00259/impl.file").run Try.prog w = .ok (178, v) w := by kernel_rfl
theorem meth_rr (v : Value) (w : World) : (method 311 165 v "loop.example/g00259/impl.restRight").run Try.prog w = .ok (179, v) w := by kernel_rfl
theorem file_r (k : Int) (n t x : ByteArray) (w : World) :
    Calls Try.prog 178 #[.agg #[.int .i64 k, .string n, .string t, .string x]] w fun e w' => e = .returned (.string n) ∧ w' = w.alloc (.cells #[.int .i64 k, .string n, .string t, .string x] 165) := by
  go_enter Try.func178, Try.ntmps178
  go_wp2
  go_ret
  exact ⟨rfl, rfl⟩

theorem rest_r (k : Int) (n t x : ByteArray) (w : World) (h2 : t.size ≤ 1048576) (h3 : x.size ≤ 1048576) :
    Calls Try.prog 179 #[.agg #[.int .i64 k, .string n, .string t, .string x]] w fun e w' => e = .returned (.bool (nameB t && decide (x = ⟨#[]⟩))) ∧ w' = w.alloc (.cells #[.int .i64 k, .string n, .string t, .string x] 165) := by
  have HT := mkHid (fun wx => name_impl t wx h2)
  cases ht : nameB t with
  | false =>
    rw [ht] at HT
    go_enter Try.func179, Try.ntmps179
    go_wp2_with fail
    refine (HT.out _).mono ?_
    rintro e w2 ⟨rfl, rfl⟩
    go_wp2
    go_ret
    exact ⟨ret_eq (by simp), rfl⟩
  | true =>
    rw [ht] at HT
    rcases empty_or x with rfl | ⟨hx, hxe⟩
    · go_enter Try.func179, Try.ntmps179
      go_wp2_with fail
      refine (HT.out _).mono ?_
      rintro e w2 ⟨rfl, rfl⟩
      go_wp2
      go_ret
      exact ⟨ret_eq (by simp), rfl⟩
    · go_enter Try.func179, Try.ntmps179
      go_wp2_with fail
      refine (HT.out _).mono ?_
      rintro e w2 ⟨rfl, rfl⟩
      go_wp2
      go_ret
      exact ⟨ret_eq (by simp [hx]), rfl⟩

theorem meth_df (v : Value) (w : World) : (method 311 166 v "loop.example/g00259/impl.file").run Try.prog w = .ok (180, v) w := by kernel_rfl
theorem meth_dr (v : Value) (w : World) : (method 311 166 v "loop.example/g00259/impl.restRight").run Try.prog w = .ok (181, v) w := by kernel_rfl
theorem file_d (k : Int) (n t x : ByteArray) (w : World) :
    Calls Try.prog 180 #[.agg #[.int .i64 k, .string n, .string t, .string x]] w fun e w' => e = .returned (.string n) ∧ w' = w.alloc (.cells #[.int .i64 k, .string n, .string t, .string x] 166) := by
  go_enter Try.func180, Try.ntmps180
  go_wp2
  go_ret
  exact ⟨rfl, rfl⟩

theorem rest_d (k : Int) (n t x : ByteArray) (w : World) (h2 : t.size ≤ 1048576) (h3 : x.size ≤ 1048576) :
    Calls Try.prog 181 #[.agg #[.int .i64 k, .string n, .string t, .string x]] w fun e w' => e = .returned (.bool (decide (t = ⟨#[]⟩) && decide (x = ⟨#[]⟩))) ∧ w' = w.alloc (.cells #[.int .i64 k, .string n, .string t, .string x] 166) := by
  rcases empty_or t with rfl | ⟨ht, hte⟩
  · rcases empty_or x with rfl | ⟨hx, hxe⟩
    · go_enter Try.func181, Try.ntmps181
      go_wp2
      go_ret
      exact ⟨ret_eq (by simp), rfl⟩
    · go_enter Try.func181, Try.ntmps181
      go_wp2
      go_ret
      exact ⟨ret_eq (by simp [hx]), rfl⟩
  · go_enter Try.func181, Try.ntmps181
    go_wp2
    go_ret
    exact ⟨ret_eq (by simp [ht]), rfl⟩

theorem act_w (n t x : ByteArray) (w : World) :
    Calls Try.prog 102 #[.agg #[.int .i64 1, .string n, .string t, .string x]] w fun e w' => e = .returned (.tuple #[.iface 163 (.agg #[.int .i64 1, .string n, .string t, .string x]), .bool true]) ∧ w' = w.alloc (.cells #[.int .i64 1, .string n, .string t, .string x] 27) := by
  go_enter Try.func102, Try.ntmps102
  go_wp2
  go_ret2
  exact ⟨rfl, rfl⟩

theorem act_s (n t x : ByteArray) (w : World) :
    Calls Try.prog 102 #[.agg #[.int .i64 2, .string n, .string t, .string x]] w fun e w' => e = .returned (.tuple #[.iface 164 (.agg #[.int .i64 2, .string n, .string t, .string x]), .bool true]) ∧ w' = w.alloc (.cells #[.int .i64 2, .string n, .string t, .string x] 27) := by
  go_enter Try.func102, Try.ntmps102
  go_wp2
  go_ret2
  exact ⟨rfl, rfl⟩

theorem act_r (n t x : ByteArray) (w : World) :
    Calls Try.prog 102 #[.agg #[.int .i64 3, .string n, .string t, .string x]] w fun e w' => e = .returned (.tuple #[.iface 165 (.agg #[.int .i64 3, .string n, .string t, .string x]), .bool true]) ∧ w' = w.alloc (.cells #[.int .i64 3, .string n, .string t, .string x] 27) := by
  go_enter Try.func102, Try.ntmps102
  go_wp2
  go_ret2
  exact ⟨rfl, rfl⟩

theorem act_d (n t x : ByteArray) (w : World) :
    Calls Try.prog 102 #[.agg #[.int .i64 4, .string n, .string t, .string x]] w fun e w' => e = .returned (.tuple #[.iface 166 (.agg #[.int .i64 4, .string n, .string t, .string x]), .bool true]) ∧ w' = w.alloc (.cells #[.int .i64 4, .string n, .string t, .string x] 27) := by
  go_enter Try.func102, Try.ntmps102
  go_wp2
  go_ret2
  exact ⟨rfl, rfl⟩

theorem act_no (k : Int) (n t x : ByteArray) (w : World) (h1 : k ≠ 1) (h2 : k ≠ 2) (h3 : k ≠ 3) (h4 : k ≠ 4) :
    Calls Try.prog 102 #[.agg #[.int .i64 k, .string n, .string t, .string x]] w fun e w' => e = .returned (.tuple #[.nilIface, .bool false]) ∧ w' = w.alloc (.cells #[.int .i64 k, .string n, .string t, .string x] 27) := by
  have e1 : (k == 1) = false := by simp [h1]
  have e2 : (k == 2) = false := by simp [h2]
  have e3 : (k == 3) = false := by simp [h3]
  have e4 : (k == 4) = false := by simp [h4]
  go_enter Try.func102, Try.ntmps102
  go_wp2
  go_ret2
  exact ⟨rfl, rfl⟩

set_option maxRecDepth 100000 in
theorem opI_w (n t x : ByteArray) (w : World) (h1 : n.size ≤ 1048576) (h2 : t.size ≤ 1048576) (h3 : x.size ≤ 1048576) :
    Calls Try.prog 101 #[.agg #[.int .i64 1, .string n, .string t, .string x]] w fun e w' => e = .returned (.bool (opB 1 n t x)) ∧ Below w.heap.size w w' := by
  have HN := mkHid (fun wx => name_impl n wx h1)
  have HA := mkHid (fun wx => act_w n t x wx)
  have HF := mkHid (fun wx => file_w 1 n t x wx)
  have HR := mkHid (fun wx => rest_w 1 n t x wx h2 h3)
  have E : Hid (opB 1 n t x = (nameB n && (decide (t = ⟨#[]⟩) && decide (x.size ≤ 20000)))) := mkHid (by unfold opB; simp)
  have m1 := meth_wf (.agg #[.int .i64 1, .string n, .string t, .string x])
  have m2 := meth_wr (.agg #[.int .i64 1, .string n, .string t, .string x])
  generalize (decide (t = ⟨#[]⟩) && decide (x.size ≤ 20000)) = q at *
  cases hn : nameB n with
  | false =>
    rw [hn] at HN E
    go_enter Try.func101, Try.ntmps101
    go_wp2_with fail
    refine (HA.out _).mono ?_
    rintro e w1 ⟨rfl, rfl⟩
    go_wp2_with fail
    refine (HF.out _).mono ?_
    rintro e w1 ⟨rfl, rfl⟩
    go_wp2_with fail
    refine (HN.out _).mono ?_
    rintro e w1 ⟨rfl, rfl⟩
    go_wp2
    go_ret
    exact ⟨ret_eq (by rw [E.out]; rfl), below_allocs (os := [_, _, _]) (Below.refl _ _)⟩
  | true =>
    rw [hn, Bool.true_and] at E
    rw [hn] at HN
    go_enter Try.func101, Try.ntmps101
    go_wp2_with fail
    refine (HA.out _).mono ?_
    rintro e w1 ⟨rfl, rfl⟩
    go_wp2_with fail
    refine (HF.out _).mono ?_
    rintro e w1 ⟨rfl, rfl⟩
    go_wp2_with fail
    refine (HN.out _).mono ?_
    rintro e w1 ⟨rfl, rfl⟩
    go_wp2_with fail
    refine (HR.out _).mono ?_
    rintro e w1 ⟨rfl, rfl⟩
    go_wp2
    go_ret
    exact ⟨ret_eq (by rw [E.out]; rfl), below_allocs (os := [_, _, _, _]) (Below.refl _ _)⟩

set_option maxRecDepth 100000 in
theorem opI_s (n t x : ByteArray) (w : World) (h1 : n.size ≤ 1048576) (h2 : t.size ≤ 1048576) (h3 : x.size ≤ 1048576) :
    Calls Try.prog 101 #[.agg #[.int .i64 2, .string n, .string t, .string x]] w fun e w' => e = .returned (.bool (opB 2 n t x)) ∧ Below w.heap.size w w' := by
  have HN := mkHid (fun wx => name_impl n wx h1)
  have HA := mkHid (fun wx => act_s n t x wx)
  have HF := mkHid (fun wx => file_s 2 n t x wx)
  have HR := mkHid (fun wx => rest_s 2 n t x wx h2 h3)
  have E : Hid (opB 2 n t x = (nameB n && (decide (t = ⟨#[]⟩) && decide (x = ⟨#[]⟩)))) := mkHid (by unfold opB; simp)
  have m1 := meth_sf (.agg #[.int .i64 2, .string n, .string t, .string x])
  have m2 := meth_sr (.agg #[.int .i64 2, .string n, .string t, .string x])
  generalize (decide (t = ⟨#[]⟩) && decide (x = ⟨#[]⟩)) = q at *
  cases hn : nameB n with
  | false =>
    rw [hn] at HN E
    go_enter Try.func101, Try.ntmps101
    go_wp2_with fail
    refine (HA.out _).mono ?_
    rintro e w1 ⟨rfl, rfl⟩
    go_wp2_with fail
    refine (HF.out _).mono ?_
    rintro e w1 ⟨rfl, rfl⟩
    go_wp2_with fail
    refine (HN.out _).mono ?_
    rintro e w1 ⟨rfl, rfl⟩
    go_wp2
    go_ret
    exact ⟨ret_eq (by rw [E.out]; rfl), below_allocs (os := [_, _, _]) (Below.refl _ _)⟩
  | true =>
    rw [hn, Bool.true_and] at E
    rw [hn] at HN
    go_enter Try.func101, Try.ntmps101
    go_wp2_with fail
    refine (HA.out _).mono ?_
    rintro e w1 ⟨rfl, rfl⟩
    go_wp2_with fail
    refine (HF.out _).mono ?_
    rintro e w1 ⟨rfl, rfl⟩
    go_wp2_with fail
    refine (HN.out _).mono ?_
    rintro e w1 ⟨rfl, rfl⟩
    go_wp2_with fail
    refine (HR.out _).mono ?_
    rintro e w1 ⟨rfl, rfl⟩
    go_wp2
    go_ret
    exact ⟨ret_eq (by rw [E.out]; rfl), below_allocs (os := [_, _, _, _]) (Below.refl _ _)⟩

set_option maxRecDepth 100000 in
theorem opI_r (n t x : ByteArray) (w : World) (h1 : n.size ≤ 1048576) (h2 : t.size ≤ 1048576) (h3 : x.size ≤ 1048576) :
    Calls Try.prog 101 #[.agg #[.int .i64 3, .string n, .string t, .string x]] w fun e w' => e = .returned (.bool (opB 3 n t x)) ∧ Below w.heap.size w w' := by
  have HN := mkHid (fun wx => name_impl n wx h1)
  have HA := mkHid (fun wx => act_r n t x wx)
  have HF := mkHid (fun wx => file_r 3 n t x wx)
  have HR := mkHid (fun wx => rest_r 3 n t x wx h2 h3)
  have E : Hid (opB 3 n t x = (nameB n && (nameB t && decide (x = ⟨#[]⟩)))) := mkHid (by unfold opB; simp)
  have m1 := meth_rf (.agg #[.int .i64 3, .string n, .string t, .string x])
  have m2 := meth_rr (.agg #[.int .i64 3, .string n, .string t, .string x])
  generalize (nameB t && decide (x = ⟨#[]⟩)) = q at *
  cases hn : nameB n with
  | false =>
    rw [hn] at HN E
    go_enter Try.func101, Try.ntmps101
    go_wp2_with fail
    refine (HA.out _).mono ?_
    rintro e w1 ⟨rfl, rfl⟩
    go_wp2_with fail
    refine (HF.out _).mono ?_
    rintro e w1 ⟨rfl, rfl⟩
    go_wp2_with fail
    refine (HN.out _).mono ?_
    rintro e w1 ⟨rfl, rfl⟩
    go_wp2
    go_ret
    exact ⟨ret_eq (by rw [E.out]; rfl), below_allocs (os := [_, _, _]) (Below.refl _ _)⟩
  | true =>
    rw [hn, Bool.true_and] at E
    rw [hn] at HN
    go_enter Try.func101, Try.ntmps101
    go_wp2_with fail
    refine (HA.out _).mono ?_
    rintro e w1 ⟨rfl, rfl⟩
    go_wp2_with fail
    refine (HF.out _).mono ?_
    rintro e w1 ⟨rfl, rfl⟩
    go_wp2_with fail
    refine (HN.out _).mono ?_
    rintro e w1 ⟨rfl, rfl⟩
    go_wp2_with fail
    refine (HR.out _).mono ?_
    rintro e w1 ⟨rfl, rfl⟩
    go_wp2
    go_ret
    exact ⟨ret_eq (by rw [E.out]; rfl), below_allocs (os := [_, _, _, _]) (Below.refl _ _)⟩

set_option maxRecDepth 100000 in
theorem opI_d (n t x : ByteArray) (w : World) (h1 : n.size ≤ 1048576) (h2 : t.size ≤ 1048576) (h3 : x.size ≤ 1048576) :
    Calls Try.prog 101 #[.agg #[.int .i64 4, .string n, .string t, .string x]] w fun e w' => e = .returned (.bool (opB 4 n t x)) ∧ Below w.heap.size w w' := by
  have HN := mkHid (fun wx => name_impl n wx h1)
  have HA := mkHid (fun wx => act_d n t x wx)
  have HF := mkHid (fun wx => file_d 4 n t x wx)
  have HR := mkHid (fun wx => rest_d 4 n t x wx h2 h3)
  have E : Hid (opB 4 n t x = (nameB n && (decide (t = ⟨#[]⟩) && decide (x = ⟨#[]⟩)))) := mkHid (by unfold opB; simp)
  have m1 := meth_df (.agg #[.int .i64 4, .string n, .string t, .string x])
  have m2 := meth_dr (.agg #[.int .i64 4, .string n, .string t, .string x])
  generalize (decide (t = ⟨#[]⟩) && decide (x = ⟨#[]⟩)) = q at *
  cases hn : nameB n with
  | false =>
    rw [hn] at HN E
    go_enter Try.func101, Try.ntmps101
    go_wp2_with fail
    refine (HA.out _).mono ?_
    rintro e w1 ⟨rfl, rfl⟩
    go_wp2_with fail
    refine (HF.out _).mono ?_
    rintro e w1 ⟨rfl, rfl⟩
    go_wp2_with fail
    refine (HN.out _).mono ?_
    rintro e w1 ⟨rfl, rfl⟩
    go_wp2
    go_ret
    exact ⟨ret_eq (by rw [E.out]; rfl), below_allocs (os := [_, _, _]) (Below.refl _ _)⟩
  | true =>
    rw [hn, Bool.true_and] at E
    rw [hn] at HN
    go_enter Try.func101, Try.ntmps101
    go_wp2_with fail
    refine (HA.out _).mono ?_
    rintro e w1 ⟨rfl, rfl⟩
    go_wp2_with fail
    refine (HF.out _).mono ?_
    rintro e w1 ⟨rfl, rfl⟩
    go_wp2_with fail
    refine (HN.out _).mono ?_
    rintro e w1 ⟨rfl, rfl⟩
    go_wp2_with fail
    refine (HR.out _).mono ?_
    rintro e w1 ⟨rfl, rfl⟩
    go_wp2
    go_ret
    exact ⟨ret_eq (by rw [E.out]; rfl), below_allocs (os := [_, _, _, _]) (Below.refl _ _)⟩

set_option maxRecDepth 100000 in
theorem opI_any (k : Int) (n t x : ByteArray) (w : World) (h1 : n.size ≤ 1048576) (h2 : t.size ≤ 1048576) (h3 : x.size ≤ 1048576) :
    Calls Try.prog 101 #[.agg #[.int .i64 k, .string n, .string t, .string x]] w fun e w' => e = .returned (.bool (opB k n t x)) ∧ Below w.heap.size w w' := by
  by_cases k1 : k = 1
  · subst k1; exact opI_w n t x w h1 h2 h3
  by_cases k2 : k = 2
  · subst k2; exact opI_s n t x w h1 h2 h3
  by_cases k3 : k = 3
  · subst k3; exact opI_r n t x w h1 h2 h3
  by_cases k4 : k = 4
  · subst k4; exact opI_d n t x w h1 h2 h3
  have E : Hid (opB k n t x = false) := mkHid (by unfold opB; simp [k1, k2, k3, k4])
  have HA := mkHid (fun wx => act_no k n t x wx k1 k2 k3 k4)
  clear k1 k2 k3 k4
  go_enter Try.func101, Try.ntmps101
  go_wp2_with fail
  refine (HA.out _).mono ?_
  rintro e w1 ⟨rfl, rfl⟩
  go_wp2
  go_ret
  exact ⟨ret_eq (by rw [E.out]; rfl), below_allocs (os := [_, _]) (Below.refl _ _)⟩
end Go.Proofs.Ytfckgpmphcadeaa.drv
