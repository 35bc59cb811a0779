/-
  What impl.change answers and leaves of an act that renames. Conditions: a drive of our own of at most 1,048,576 files, whose names rise, of texts of at most 1,048,576 bytes.
-/
import Derived.Test.YtfckgpmphcadeaaDrvCw
namespace Go.Proofs.Ytfckgpmphcadeaa.drv
open Go.RowKit Go.Joins Go.Sort
open Go.Proofs.Ytfckgpmphcadeaa.base Go.Proofs.Ytfckgpmphcadeaa.blk Go.Proofs.Ytfckgpmphcadeaa.aid
open Go.Proofs.Ytfckgpmphcadeaa.row (Rd Own OwnV)
open Go.Proofs.Ytfckgpmphcadeaa.rwStored (cs)
set_option linter.unusedVariables false
set_option linter.unusedSimpArgs false

/-- renamed -/
def renL (l : List File) (n t : ByteArray) : List File := match l[spot n l 0]? with | none => l | some f => put (out l (spot n l 0)) (t, f.2.1, f.2.2)
attribute [local go_sem] as_ww as_ws as_wr as_wd as_sw as_ss as_sr as_sd as_rw as_rs as_rr as_rd as_dw as_ds as_dr as_dd
set_option maxRecDepth 100000 in
set_option maxHeartbeats 4000000 in
theorem change_r_true (W : World) (B D : Nat) (r : Int) (l : List File) (v : Value) (k : Int) (n t x : ByteArray) (w : World) (hl : l.length ≤ 1048576) (hs : Small l) (hn : n.size ≤ 1048576) (ht : t.size ≤ 1048576) (hx : x.size ≤ 1048576) (hR : Rising l) (hth : there l n = true) (h : Dr W B D r l v w) :
    Calls Try.prog 129 #[.pointer (some ⟨D, 0, none⟩), .iface 165 (.agg #[.int .i64 k, .string n, .string t, .string x])] w (HPost W B D r (renL l n t) 0) := by
  obtain ⟨va, vc, rfl⟩ := h.form
  have DV := mkHid h
  have HFl : Hid (∀ wx, Calls Try.prog 178 #[.agg #[.int .i64 k, .string n, .string t, .string x]] wx fun e w' => e = .returned (.string n) ∧ Below wx.heap.size wx w') := mkHid (fun wx => (file_r k n t x wx).mono (by rintro e w2 ⟨rfl, rfl⟩; exact ⟨rfl, below_alloc1 _ _⟩))
  have m1 := meth_rf (.agg #[.int .i64 k, .string n, .string t, .string x])
  have HFi := mkHid (fun wx (hq : Rd wx va (cs l)) => findI_any va vc l n wx hl hR hq)
  rw [hth] at HFi
  have HRf := mkHid (fun wx => ref_r_true (.agg #[.int .i64 k, .string n, .string t, .string x]) wx)
  obtain ⟨c0, c1⟩ := cel2 DV.out.b
  obtain ⟨f, hf, hfn⟩ := there_at hth
  have hsl : spot n l 0 < l.length := (List.getElem?_eq_some_iff.1 hf).1
  have HRl : Hid (put (out l (spot n l 0)) (t, f.2.1, f.2.2) = renL l n t) := mkHid (by unfold renL; rw [hf])
  have HF := mkHid hf
  have HRi := mkHid hR
  have HCt := mkHid (fun wx => clone.clone_any t wx ht)
  generalize spot n l 0 = p at *
  generalize renL l n t = l2 at *
  clear h
  go_enter Try.func129, Try.ntmps129
  go_wp2_with fail
  go_region_held3 (fun w' => w'.cell? ⟨D, 0, none⟩ = some (.slice va l.length vc)) (go_keep)
    (first
     | (go_at_call 178; refine Calls.mono (HFl.out _) ?_; rintro e w1 ⟨rfl, hb1⟩; have DV1 := mkHid (DV.out.next (re hb1 rfl rfl rfl rfl)); obtain ⟨d0, d1⟩ := cel2 DV1.out.b; clear hb1)
     | (go_at_call 69; refine Calls.mono (HFi.out _ DV1.out.rd) ?_; rintro e w2 ⟨rfl, hb2⟩; have DV2 := mkHid (DV1.out.next (re hb2 rfl rfl rfl rfl)); obtain ⟨f0, f1⟩ := cel2 DV2.out.b; clear hb2))
  clear d0 d1 c0 c1 DV DV1 HFl HFi f0 f1
  go_wp2_with fail
  refine (HRf.out _).mono ?_
  rintro e w2' ⟨rfl, rfl⟩
  clear HRf m1
  obtain ⟨g, c', hva⟩ := row.ownsRow_form DV2.out.o (by omega)
  cases hva
  obtain ⟨m, hm⟩ : ∃ m, l.length = m + 1 := ⟨l.length - 1, by omega⟩
  have DVc := mkHid (DV2.out.next (below_alloc1 _ (.cells #[.int .i64 k, .string n, .string t, .string x] 165)))
  have KA := mkHid (blk_new w2' (.cells #[.int .i64 k, .string n, .string t, .string x] 165) w2'.heap.size rfl)
  obtain ⟨a0, a1, a2, a3⟩ := cel4 KA.out
  obtain ⟨c0, c1⟩ := cel2 DVc.out.b
  rw [hm] at c0
  have hgV : g < w2'.heap.size := (DV2.out.o.lt g rfl).2
  have hDV := DV2.out.size
  have hne1 : w2'.heap.size ≠ D := by omega
  have hne2 : D ≠ w2'.heap.size := by omega
  have hAV : w2'.heap.size < (w2'.alloc (.cells #[.int .i64 k, .string n, .string t, .string x] 165)).heap.size := by simp
  clear DV2 hth hR hs hf
  go_wp2_with fail
  generalize w2'.alloc (.cells #[.int .i64 k, .string n, .string t, .string x] 165) = V at *
  refine wp_region_held_drew (S := fun w' => w'.cell? ⟨w2'.heap.size, 2, none⟩ = some (.string t)) (by kernel_rfl) (by exact a2) (fun hHeld => ?_)
  refine wpAnyH_take (i := 0) (oi := Oper.mk _ _ _ _ _ _) (v := ?_) rfl (by kernel_rfl) (by kernel_rfl) (by kernel_rfl) (fun _ _ _ h => h) (Or.inl ⟨by rfl, ?_⟩) (by assumption) ?_
  rotate_left
  · intro w hSw
    try dsimp only at hSw
    go_simp
    all_goals with_reducible rfl
  try simp only [Act.put, List.setIfInBounds_toArray, List.set_cons_zero, List.set_cons_succ]
  refine wpAnyH_take (i := 1) (oi := Oper.mk _ _ _ _ _ _) (v := ?_) rfl (by kernel_rfl) (by kernel_rfl) (by kernel_rfl) (fun _ _ _ h => h) (Or.inl ⟨by rfl, ?_⟩) (by assumption) ?_
  rotate_left
  · intro w hSw
    try dsimp only at hSw
    go_simp
    all_goals with_reducible rfl
  try simp only [Act.put, List.setIfInBounds_toArray, List.set_cons_zero, List.set_cons_succ]
  refine wpAnyH_take (i := 2) (oi := Oper.mk _ _ _ _ _ _) (v := ?_) rfl (by kernel_rfl) (by kernel_rfl) (by kernel_rfl) (fun _ _ _ h => h) (Or.inl ⟨by rfl, ?_⟩) (by assumption) ?_
  rotate_left
  · intro w hSw
    try dsimp only at hSw
    go_simp
    all_goals with_reducible rfl
  try simp only [Act.put, List.setIfInBounds_toArray, List.set_cons_zero, List.set_cons_succ]
  refine wpAnyH_take (i := 3) (oi := Oper.mk _ _ _ _ _ _) (v := ?_) rfl (by kernel_rfl) (by kernel_rfl) (by kernel_rfl) (fun _ _ _ h => h) (Or.inl ⟨by rfl, ?_⟩) (by assumption) ?_
  rotate_left
  · intro w hSw
    try dsimp only at hSw
    go_simp
    all_goals with_reducible rfl
  try simp only [Act.put, List.setIfInBounds_toArray, List.set_cons_zero, List.set_cons_succ]
  refine wpAnyH_take (i := 5) (oi := Oper.mk _ _ _ _ _ _) (v := ?_) rfl (by kernel_rfl) (by kernel_rfl) (by kernel_rfl) (fun _ _ _ h => h) (Or.inl ⟨by rfl, ?_⟩) (by assumption) ?_
  rotate_left
  · intro w hSw
    try dsimp only at hSw
    go_simp
    all_goals with_reducible rfl
  try simp only [Act.put, List.setIfInBounds_toArray, List.set_cons_zero, List.set_cons_succ]
  refine wpAnyH_take (i := 6) (oi := Oper.mk _ _ _ _ _ _) (v := ?_) rfl (by kernel_rfl) (by kernel_rfl) (by kernel_rfl) (fun _ _ _ h => h) (Or.inl ⟨by rfl, ?_⟩) (by assumption) ?_
  rotate_left
  · intro w hSw
    try dsimp only at hSw
    go_simp
    all_goals with_reducible rfl
  try simp only [Act.put, List.setIfInBounds_toArray, List.set_cons_zero, List.set_cons_succ]
  refine wpAnyH_take (i := 7) (oi := Oper.mk _ _ _ _ _ _) (v := ?_) rfl (by kernel_rfl) (by kernel_rfl) (by kernel_rfl) (fun _ _ _ h => h) (Or.inl ⟨by rfl, ?_⟩) (by assumption) ?_
  rotate_left
  · intro w hSw
    try dsimp only at hSw
    go_simp
    all_goals with_reducible rfl
  try simp only [Act.put, List.setIfInBounds_toArray, List.set_cons_zero, List.set_cons_succ]
  refine wpAnyH_ready (rs := [4, 8]) (by kernel_rfl) (by simp) ?_
  refine AllReadyH.cons (o := Oper.mk _ _ _ _ _ _) rfl (fun K hK => ?_) ?_
  · skip
    go_simp
    refine hK.out _ _ (by assumption) (fun hHeld => ?_)
    clear hK K
    try simp only [Act.put, List.setIfInBounds_toArray, List.set_cons_zero, List.set_cons_succ]
    refine wpAnyH_ready (rs := [8]) (by kernel_rfl) (by simp) ?_
    refine AllReadyH.cons (o := Oper.mk _ _ _ _ _ _) rfl (fun K hK => ?_) AllReadyH.nil
    go_simp
    refine Calls.mono (HCt.out _) ?_
    rintro e wc ⟨rfl, hbc⟩
    have DVc := mkHid (DVc.out.next (re hbc rfl rfl rfl rfl))
    have KA := mkHid (blk_below KA.out (re hbc rfl rfl rfl rfl))
    obtain ⟨a0, a1, a2, a3⟩ := cel4 KA.out
    obtain ⟨d0, d1⟩ := cel2 DVc.out.b
    have hSo := DVc.out.o
    rw [hm] at hSo d0
    have hbE : B ≤ wc.heap.size := by have := DVc.out.size; have := DVc.out.bd; omega
    have HRn := mkHid (renamed_any B g vc p m l t f wc hm HF.out (by omega) HRi.out hbE hSo)
    rw [HRl.out] at HRn
    unfold NPost at HRn
    clear hbc hSo hbE
    show K _ _
    refine hK.out _ _ a2 (fun hHeld => ?_)
    clear hK K
    try simp only [Act.put, List.setIfInBounds_toArray, List.set_cons_zero, List.set_cons_succ]
    refine wpAnyH_ready (rs := [9]) (by kernel_rfl) (by simp) ?_
    refine AllReadyH.cons (o := Oper.mk _ _ _ _ _ _) rfl (fun K hK => ?_) AllReadyH.nil
    go_simp
    refine Calls.mono HRn.out ?_
    rintro e w5 ⟨g5, c5, rfl, ho5, hg5⟩
    obtain ⟨hbel5, hbD5⟩ := DVc.out.grown hg5 rfl
    have KA5 := mkHid ((hg5.block _ (Array.getElem?_eq_some_iff.1 KA.out).1 (by simp; omega)).trans KA.out)
    have HP : Hid (HPost W B D r l2 0 (.returned (.int .i64 0)) _) := mkHid ⟨rfl, _, DVc.out.put hg5 rfl ho5⟩
    obtain ⟨t0, t1⟩ := cel2 hbD5
    have tf := unfrozen hbD5
    obtain ⟨m0, m1, m2, m3⟩ := cel4 KA5.out
    clear ho5 hg5 hbel5 hbD5
    show K _ _
    refine hK.out _ _ m2 (fun hHeld => ?_)
    clear hK K
    try simp only [Act.put, List.setIfInBounds_toArray, List.set_cons_zero, List.set_cons_succ]
    refine wpAnyH_take (i := 10) (oi := Oper.mk _ _ _ _ _ _) (v := ?_) rfl (by kernel_rfl) (by kernel_rfl) (by kernel_rfl) (fun _ _ _ h => h) (Or.inl ⟨by rfl, ?_⟩) (by assumption) ?_
    rotate_left
    · intro w hSw
      try dsimp only at hSw
      go_simp
      all_goals with_reducible rfl
    try simp only [Act.put, List.setIfInBounds_toArray, List.set_cons_zero, List.set_cons_succ]
    refine wpAnyH_take (i := 11) (oi := Oper.mk _ _ _ _ _ _) (v := ?_) rfl (by kernel_rfl) (by kernel_rfl) (by kernel_rfl) (fun _ _ _ h => h) (Or.inl ⟨by rfl, ?_⟩) (by assumption) ?_
    rotate_left
    · intro w hSw
      try dsimp only at hSw
      go_simp
      all_goals with_reducible rfl
    try simp only [Act.put, List.setIfInBounds_toArray, List.set_cons_zero, List.set_cons_succ]
    refine wpAnyH_ready (rs := [12]) (by kernel_rfl) (by simp) ?_
    refine AllReadyH.cons (o := Oper.mk _ _ _ _ _ _) rfl (fun K hK => ?_) AllReadyH.nil
    go_simp
    refine hK.out _ _ (by go_keep) (fun hHeld => ?_)
    clear hK K
    try simp only [Act.put, List.setIfInBounds_toArray, List.set_cons_zero, List.set_cons_succ]
    refine wpAnyH_done (by kernel_rfl) ?_ _
    go_wp2
    go_ret
    first
      | exact HP.out
      | exact hpost_drew HP.out
  refine AllReadyH.cons (o := Oper.mk _ _ _ _ _ _) rfl (fun K hK => ?_) AllReadyH.nil
  go_simp
  refine Calls.mono (HCt.out _) ?_
  rintro e wc ⟨rfl, hbc⟩
  have DVc := mkHid (DVc.out.next (re hbc rfl rfl rfl rfl))
  have KA := mkHid (blk_below KA.out (re hbc rfl rfl rfl rfl))
  obtain ⟨a0, a1, a2, a3⟩ := cel4 KA.out
  obtain ⟨d0, d1⟩ := cel2 DVc.out.b
  have hSo := DVc.out.o
  rw [hm] at hSo d0
  have hbE : B ≤ wc.heap.size := by have := DVc.out.size; have := DVc.out.bd; omega
  have HRn := mkHid (renamed_any B g vc p m l t f wc hm HF.out (by omega) HRi.out hbE hSo)
  rw [HRl.out] at HRn
  unfold NPost at HRn
  clear hbc hSo hbE
  show K _ _
  refine hK.out _ _ a2 (fun hHeld => ?_)
  clear hK K
  try simp only [Act.put, List.setIfInBounds_toArray, List.set_cons_zero, List.set_cons_succ]
  refine wpAnyH_ready (rs := [4]) (by kernel_rfl) (by simp) ?_
  refine AllReadyH.cons (o := Oper.mk _ _ _ _ _ _) rfl (fun K hK => ?_) AllReadyH.nil
  go_simp
  refine hK.out _ _ (by assumption) (fun hHeld => ?_)
  clear hK K
  try simp only [Act.put, List.setIfInBounds_toArray, List.set_cons_zero, List.set_cons_succ]
  refine wpAnyH_ready (rs := [9]) (by kernel_rfl) (by simp) ?_
  refine AllReadyH.cons (o := Oper.mk _ _ _ _ _ _) rfl (fun K hK => ?_) AllReadyH.nil
  go_simp
  refine Calls.mono HRn.out ?_
  rintro e w5 ⟨g5, c5, rfl, ho5, hg5⟩
  obtain ⟨hbel5, hbD5⟩ := DVc.out.grown hg5 rfl
  have KA5 := mkHid ((hg5.block _ (Array.getElem?_eq_some_iff.1 KA.out).1 (by simp; omega)).trans KA.out)
  have HP : Hid (HPost W B D r l2 0 (.returned (.int .i64 0)) _) := mkHid ⟨rfl, _, DVc.out.put hg5 rfl ho5⟩
  obtain ⟨t0, t1⟩ := cel2 hbD5
  have tf := unfrozen hbD5
  obtain ⟨m0, m1, m2, m3⟩ := cel4 KA5.out
  clear ho5 hg5 hbel5 hbD5
  show K _ _
  refine hK.out _ _ m2 (fun hHeld => ?_)
  clear hK K
  try simp only [Act.put, List.setIfInBounds_toArray, List.set_cons_zero, List.set_cons_succ]
  refine wpAnyH_take (i := 10) (oi := Oper.mk _ _ _ _ _ _) (v := ?_) rfl (by kernel_rfl) (by kernel_rfl) (by kernel_rfl) (fun _ _ _ h => h) (Or.inl ⟨by rfl, ?_⟩) (by assumption) ?_
  rotate_left
  · intro w hSw
    try dsimp only at hSw
    go_simp
    all_goals with_reducible rfl
  try simp only [Act.put, List.setIfInBounds_toArray, List.set_cons_zero, List.set_cons_succ]
  refine wpAnyH_take (i := 11) (oi := Oper.mk _ _ _ _ _ _) (v := ?_) rfl (by kernel_rfl) (by kernel_rfl) (by kernel_rfl) (fun _ _ _ h => h) (Or.inl ⟨by rfl, ?_⟩) (by assumption) ?_
  rotate_left
  · intro w hSw
    try dsimp only at hSw
    go_simp
    all_goals with_reducible rfl
  try simp only [Act.put, List.setIfInBounds_toArray, List.set_cons_zero, List.set_cons_succ]
  refine wpAnyH_ready (rs := [12]) (by kernel_rfl) (by simp) ?_
  refine AllReadyH.cons (o := Oper.mk _ _ _ _ _ _) rfl (fun K hK => ?_) AllReadyH.nil
  go_simp
  refine hK.out _ _ (by go_keep) (fun hHeld => ?_)
  clear hK K
  try simp only [Act.put, List.setIfInBounds_toArray, List.set_cons_zero, List.set_cons_succ]
  refine wpAnyH_done (by kernel_rfl) ?_ _
  go_wp2
  go_ret
  first
    | exact HP.out
    | exact hpost_drew HP.out
end Go.Proofs.Ytfckgpmphcadeaa.drv
