/-
  What impl.change answers and leaves of an act that writes. Conditions: a drive of our own of at most 1,048,576 files, whose names rise, of texts of at most 1,048,576 bytes.
-/
import Derived.Test.YtfckgpmphcadeaaDrvCh
import Derived.Test.YtfckgpmphcadeaaClone
namespace Go.Proofs.Ytfckgpmphcadeaa.drv
open Go.RowKit Go.Joins Go.Sort
open Go.Proofs.Ytfckgpmphcadeaa.base Go.Proofs.Ytfckgpmphcadeaa.blk Go.Proofs.Ytfckgpmphcadeaa.aid
open Go.Proofs.Ytfckgpmphcadeaa.row (Rd Own OwnV)
open Go.Proofs.Ytfckgpmphcadeaa.rwStored (cs)
set_option linter.unusedVariables false
set_option linter.unusedSimpArgs false

theorem Dr.other {W w w' : World} {B D F : Nat} {r : Int} {l : List File} {v : Value} (h : Dr W B D r l v w) (hg : w.grownBy w' (some F)) (h1 : v.ownBlock ≠ some F) (h2 : D ≠ F) (h3 : B ≤ F) : Dr W B D r l v w' :=
  ⟨h.bel.grown hg (by have := h.size; have := h.bd; omega) (fun k hk => by cases hk; exact h3), (hg.block D h.size (fun e => h2 (by simpa using e))).trans h.b, h.o.kept hg (.inr h1), h.bd⟩
theorem set_file {w : World} {F T : Nat} {a b c : Value} (x y z : Value) (h : w.heap[F]? = some (.cells #[a, b, c] T (0, 0))) : (((w.setCell ⟨F, 0, none⟩ x).setCell ⟨F, 1, none⟩ y).setCell ⟨F, 2, none⟩ z).heap[F]? = some (.cells #[x, y, z] T (0, 0)) := by
  have h1 := heap_setCell_same _ F 2 _ _ z (heap_setCell_same _ F 1 _ _ y (heap_setCell_same w F 0 _ _ x h))
  simpa using h1
theorem drew_below (w : World) : Below w.heap.size w w.drew := ⟨rfl, rfl, rfl, Nat.le_refl _, fun _ _ => rfl⟩
attribute [local go_sem] as_ww as_ws as_wr as_wd as_sw as_ss as_sr as_sd as_rw as_rs as_rr as_rd as_dw as_ds as_dr as_dd
set_option maxRecDepth 100000 in
set_option maxHeartbeats 4000000 in
theorem change_w_false (W : World) (B D : Nat) (r : Int) (l : List File) (v : Value) (k : Int) (n t x : ByteArray) (w : World) (hl : l.length ≤ 1048576) (hs : Small l) (hn : n.size ≤ 1048576) (ht : t.size ≤ 1048576) (hx : x.size ≤ 1048576) (hR : Rising l) (hth : there l n = false) (h : Dr W B D r l v w) :
    Calls Try.prog 129 #[.pointer (some ⟨D, 0, none⟩), .iface 163 (.agg #[.int .i64 k, .string n, .string t, .string x])] w (HPost W B D r (ins l (spot n l 0) (n, x, 0)) 0) := by
  obtain ⟨va, vc, rfl⟩ := h.form
  have DV := mkHid h
  have HFl : Hid (∀ wx, Calls Try.prog 173 #[.agg #[.int .i64 k, .string n, .string t, .string x]] wx fun e w' => e = .returned (.string n) ∧ Below wx.heap.size wx w') := mkHid (fun wx => (file_w k n t x wx).mono (by rintro e w2 ⟨rfl, rfl⟩; exact ⟨rfl, below_alloc1 _ _⟩))
  have m1 := meth_wf (.agg #[.int .i64 k, .string n, .string t, .string x])
  have HFi := mkHid (fun wx (hq : Rd wx va (cs l)) => findI_any va vc l n wx hl hR hq)
  rw [hth] at HFi
  have HRf := mkHid (fun wx => ref_w_false (.agg #[.int .i64 k, .string n, .string t, .string x]) wx)
  obtain ⟨c0, c1⟩ := cel2 DV.out.b
  have hsl : spot n l 0 ≤ l.length := spot_le n l
  generalize spot n l 0 = p at *
  have HCn := mkHid (fun wx => clone.clone_any n wx hn)
  have HCx := mkHid (fun wx => clone.clone_any x wx hx)
  clear h
  go_enter Try.func129, Try.ntmps129
  go_wp2_with fail
  go_region_held3 (fun w' => w'.cell? ⟨D, 0, none⟩ = some (.slice va l.length vc)) (go_keep)
    (first
     | (go_at_call 173; refine Calls.mono (HFl.out _) ?_; rintro e w1 ⟨rfl, hb1⟩; have DV1 := mkHid (DV.out.next (re hb1 rfl rfl rfl rfl)); obtain ⟨d0, d1⟩ := cel2 DV1.out.b; clear hb1)
     | (go_at_call 69; refine Calls.mono (HFi.out _ DV1.out.rd) ?_; rintro e w2 ⟨rfl, hb2⟩; have DV2 := mkHid (DV1.out.next (re hb2 rfl rfl rfl rfl)); obtain ⟨f0, f1⟩ := cel2 DV2.out.b; clear hb2))
  clear d0 d1 c0 c1 DV DV1 HFl HFi f0 f1
  go_wp2_with fail
  refine (HRf.out _).mono ?_
  rintro e w2' ⟨rfl, rfl⟩
  clear HRf m1
  have DVc := mkHid (DV2.out.next (below_alloc1 _ (.cells #[.int .i64 k, .string n, .string t, .string x] 163)))
  have KA := mkHid (blk_new w2' (.cells #[.int .i64 k, .string n, .string t, .string x] 163) w2'.heap.size rfl)
  obtain ⟨a0, a1, a2, a3⟩ := cel4 KA.out
  have HgV : Hid (∀ k, (Value.slice va l.length vc).ownBlock = some k → k < w2'.heap.size) := mkHid (fun k e => (DV2.out.o.lt k e).2)
  have hDV := DV2.out.size
  have hAV : w2'.heap.size < (w2'.alloc (.cells #[.int .i64 k, .string n, .string t, .string x] 163)).heap.size := by simp
  clear DV2 hth hR hs
  go_wp2_with fail
  generalize w2'.alloc (.cells #[.int .i64 k, .string n, .string t, .string x] 163) = V at *
  have HV : Hid (V.heap.size ≤ V.heap.size) := mkHid (Nat.le_refl _)
  refine wp_region_held_drew (S := fun w' => w'.cell? ⟨w2'.heap.size, 1, none⟩ = some (.string n) ∧ w'.cell? ⟨w2'.heap.size, 3, none⟩ = some (.string x)) (by kernel_rfl) (by exact ⟨a1, a3⟩) (fun hHeld => ?_)
  refine wpAnyH_take (i := 0) (oi := Oper.mk _ _ _ _ _ _) (v := ?_) rfl (by kernel_rfl) (by kernel_rfl) (by kernel_rfl) (fun _ _ _ h => h) (Or.inl ⟨by rfl, ?_⟩) (by assumption) ?_
  rotate_left
  · intro w hSw
    try dsimp only at hSw
    go_simp
    all_goals with_reducible rfl
  try simp only [Act.put, List.setIfInBounds_toArray, List.set_cons_zero, List.set_cons_succ]
  refine wpAnyH_take (i := 1) (oi := Oper.mk _ _ _ _ _ _) (v := ?_) rfl (by kernel_rfl) (by kernel_rfl) (by kernel_rfl) (fun _ _ _ h => h) (Or.inl ⟨by rfl, ?_⟩) (by assumption) ?_
  rotate_left
  · intro w hSw
    try dsimp only at hSw
    go_simp
    all_goals with_reducible rfl
  try simp only [Act.put, List.setIfInBounds_toArray, List.set_cons_zero, List.set_cons_succ]
  refine wpAnyH_take (i := 3) (oi := Oper.mk _ _ _ _ _ _) (v := ?_) rfl (by kernel_rfl) (by kernel_rfl) (by kernel_rfl) (fun _ _ _ h => h) (Or.inl ⟨by rfl, ?_⟩) (by assumption) ?_
  rotate_left
  · intro w hSw
    try dsimp only at hSw
    go_simp
    all_goals with_reducible rfl
  try simp only [Act.put, List.setIfInBounds_toArray, List.set_cons_zero, List.set_cons_succ]
  refine wpAnyH_take (i := 4) (oi := Oper.mk _ _ _ _ _ _) (v := ?_) rfl (by kernel_rfl) (by kernel_rfl) (by kernel_rfl) (fun _ _ _ h => h) (Or.inl ⟨by rfl, ?_⟩) (by assumption) ?_
  rotate_left
  · intro w hSw
    try dsimp only at hSw
    go_simp
    all_goals with_reducible rfl
  try simp only [Act.put, List.setIfInBounds_toArray, List.set_cons_zero, List.set_cons_succ]
  refine wpAnyH_ready (rs := [2, 7]) (by kernel_rfl) (by simp) ?_
  refine AllReadyH.cons (o := Oper.mk _ _ _ _ _ _) rfl (fun K hK => ?_) ?_
  · skip
    go_simp
    refine Calls.mono (HCn.out _) ?_
    rintro e wc ⟨rfl, hbc⟩
    have DVc := mkHid (DVc.out.next (re hbc rfl rfl rfl rfl))
    have KA := mkHid (blk_below KA.out (re hbc rfl rfl rfl rfl))
    have HV := mkHid (Nat.le_trans HV.out hbc.size)
    obtain ⟨a0, a1, a2, a3⟩ := cel4 KA.out
    clear hbc
    show K _ _
    refine hK.out _ _ ⟨a1, a3⟩ (fun hHeld => ?_)
    clear hK K
    try simp only [Act.put, List.setIfInBounds_toArray, List.set_cons_zero, List.set_cons_succ]
    refine wpAnyH_ready (rs := [5, 7]) (by kernel_rfl) (by simp) ?_
    refine AllReadyH.cons (o := Oper.mk _ _ _ _ _ _) rfl (fun K hK => ?_) ?_
    · skip
      go_simp
      refine Calls.mono (HCx.out _) ?_
      rintro e wd ⟨rfl, hbc⟩
      have DVc := mkHid (DVc.out.next (re hbc rfl rfl rfl rfl))
      have KA := mkHid (blk_below KA.out (re hbc rfl rfl rfl rfl))
      have HV := mkHid (Nat.le_trans HV.out hbc.size)
      obtain ⟨a0, a1, a2, a3⟩ := cel4 KA.out
      clear hbc
      show K _ _
      refine hK.out _ _ ⟨a1, a3⟩ (fun hHeld => ?_)
      clear hK K
      try simp only [Act.put, List.setIfInBounds_toArray, List.set_cons_zero, List.set_cons_succ]
      refine wpAnyH_take (i := 6) (oi := Oper.mk _ _ _ _ _ _) (v := ?_) rfl (by kernel_rfl) (by kernel_rfl) (by kernel_rfl) (fun _ _ _ h => h) (Or.inl ⟨by rfl, ?_⟩) (by assumption) ?_
      rotate_left
      · intro w hSw
        try dsimp only at hSw
        go_simp
        all_goals with_reducible rfl
      try simp only [Act.put, List.setIfInBounds_toArray, List.set_cons_zero, List.set_cons_succ]
      refine wpAnyH_ready (rs := [7]) (by kernel_rfl) (by simp) ?_
      refine AllReadyH.cons (o := Oper.mk _ _ _ _ _ _) rfl (fun K hK => ?_) AllReadyH.nil
      have KF := mkHid (blk_new wd (.cells #[.string ⟨#[]⟩, .string ⟨#[]⟩, .int .i64 0] 39) wd.heap.size rfl)
      have KA := mkHid (blk_old KA.out (.cells #[.string ⟨#[]⟩, .string ⟨#[]⟩, .int .i64 0] 39))
      have DVp := DVc
      have hVF : V.heap.size ≤ wd.heap.size := HV.out
      have HV : Hid (V.heap.size ≤ (wd.alloc (.cells #[.string ⟨#[]⟩, .string ⟨#[]⟩, .int .i64 0] 39)).heap.size) := mkHid (by simp <;> omega)
      have DVc := mkHid (DVc.out.next (below_alloc1 _ (.cells #[.string ⟨#[]⟩, .string ⟨#[]⟩, .int .i64 0] 39)))
      obtain ⟨a0, a1, a2, a3⟩ := cel4 KA.out
      go_simp
      refine hK.out _ _ ⟨a1, a3⟩ (fun hHeld => ?_)
      clear hK K
      try simp only [Act.put, List.setIfInBounds_toArray, List.set_cons_zero, List.set_cons_succ]
      refine wpAnyH_ready (rs := [8]) (by kernel_rfl) (by simp) ?_
      refine AllReadyH.cons (o := Oper.mk _ _ _ _ _ _) rfl (fun K hK => ?_) AllReadyH.nil
      obtain ⟨k0, k1, k2⟩ := cel3 KF.out
      have kf := unfrozen KF.out
      have hAF : w2'.heap.size ≠ wd.heap.size := by omega
      have hFA : wd.heap.size ≠ w2'.heap.size := by omega
      go_simp
      refine hK.out _ _ (by go_keep) (fun hHeld => ?_)
      clear hK K
      try simp only [Act.put, List.setIfInBounds_toArray, List.set_cons_zero, List.set_cons_succ]
      refine wpAnyH_done (by kernel_rfl) ?_ _
      have DVe : Hid (Dr W B D r l (.slice va l.length vc) (wd.alloc (.cells #[.string n, .string x, .int .i64 0] 39))) := mkHid (DVp.out.next (below_alloc1 wd (.cells #[.string n, .string x, .int .i64 0] 39)))
      have KFe : Hid ((wd.alloc (.cells #[.string n, .string x, .int .i64 0] 39)).heap[wd.heap.size]? = some (.cells #[.string n, .string x, .int .i64 0] 39)) := mkHid (blk_new wd (.cells #[.string n, .string x, .int .i64 0] 39) wd.heap.size rfl)
      have HgF : Hid (∀ k, (Value.slice va l.length vc).ownBlock = some k → k ≠ wd.heap.size) := mkHid (fun k e => by have := HgV.out k e; omega)
      have hDF : D ≠ wd.heap.size := by omega
      have hFD : wd.heap.size ≠ D := by omega
      clear DVc DVp KA KF HV a0 a1 a2 a3 HgV
      try clear k0 k1 k2 kf
      generalize (wd.alloc (.cells #[.string n, .string x, .int .i64 0] 39)) = wE at *
      generalize wd.heap.size = F at *
      have hbE : B ≤ (wE.alloc (.cells #[.string n, .string x, .int .i64 0] 39)).heap.size := by have := DVe.out.size; have := DVe.out.bd; simp; omega
      have HI := mkHid (insert_any B (.slice va l.length vc) p l.length wE.heap.size l n x 0 (wE.alloc (.cells #[.string n, .string x, .int .i64 0] 39)).drew rfl hsl hl hbE (fun e => by have := (DVe.out.o.lt _ e).2; omega) (DVe.out.o.alloc (.cells #[.string n, .string x, .int .i64 0] 39)) (blk_new wE (.cells #[.string n, .string x, .int .i64 0] 39) wE.heap.size rfl))
      unfold IPost at HI
      have hil : (ins l p (n, x, 0)).length = l.length + 1 := ins_len hsl
      generalize ins l p (n, x, 0) = l2 at *
      have DVf := mkHid ((DVe.out.next (below_alloc1 wE (.cells #[.string n, .string x, .int .i64 0] 39))).next (drew_below _))
      have KFf := mkHid (blk_old KFe.out (.cells #[.string n, .string x, .int .i64 0] 39))
      obtain ⟨y0, y1, y2⟩ := cel3 KFe.out
      obtain ⟨z0, z1, z2⟩ := cel3 KFf.out
      obtain ⟨u0, u1⟩ := cel2 DVe.out.b
      obtain ⟨s0, s1⟩ := cel2 DVf.out.b
      go_wp2_with fail
      refine wp_region_held_drew (S := fun w' => w'.cell? ⟨F, 0, none⟩ = some (.string n) ∧ w'.cell? ⟨F, 1, none⟩ = some (.string x) ∧ w'.cell? ⟨F, 2, none⟩ = some (.int .i64 0)) (by kernel_rfl) (by exact ⟨y0, y1, y2⟩) (fun hHeld => ?_)
      refine wpAnyH_take (i := 0) (oi := Oper.mk _ _ _ _ _ _) (v := ?_) rfl (by kernel_rfl) (by kernel_rfl) (by kernel_rfl) (fun _ _ _ h => h) (Or.inl ⟨by rfl, ?_⟩) (by assumption) ?_
      rotate_left
      · intro w hSw
        try dsimp only at hSw
        go_simp
        all_goals with_reducible rfl
      try simp only [Act.put, List.setIfInBounds_toArray, List.set_cons_zero, List.set_cons_succ]
      refine wpAnyH_take (i := 1) (oi := Oper.mk _ _ _ _ _ _) (v := ?_) rfl (by kernel_rfl) (by kernel_rfl) (by kernel_rfl) (fun _ _ _ h => h) (Or.inl ⟨by rfl, ?_⟩) (by assumption) ?_
      rotate_left
      · intro w hSw
        try dsimp only at hSw
        go_simp
        all_goals with_reducible rfl
      try simp only [Act.put, List.setIfInBounds_toArray, List.set_cons_zero, List.set_cons_succ]
      refine wpAnyH_take (i := 2) (oi := Oper.mk _ _ _ _ _ _) (v := ?_) rfl (by kernel_rfl) (by kernel_rfl) (by kernel_rfl) (fun _ _ _ h => h) (Or.inl ⟨by rfl, ?_⟩) (by assumption) ?_
      rotate_left
      · intro w hSw
        try dsimp only at hSw
        go_simp
        all_goals with_reducible rfl
      try simp only [Act.put, List.setIfInBounds_toArray, List.set_cons_zero, List.set_cons_succ]
      refine wpAnyH_take (i := 3) (oi := Oper.mk _ _ _ _ _ _) (v := ?_) rfl (by kernel_rfl) (by kernel_rfl) (by kernel_rfl) (fun _ _ _ h => h) (Or.inl ⟨by rfl, ?_⟩) (by assumption) ?_
      rotate_left
      · intro w hSw
        try dsimp only at hSw
        go_simp
        all_goals with_reducible rfl
      try simp only [Act.put, List.setIfInBounds_toArray, List.set_cons_zero, List.set_cons_succ]
      refine wpAnyH_take (i := 5) (oi := Oper.mk _ _ _ _ _ _) (v := ?_) rfl (by kernel_rfl) (by kernel_rfl) (by kernel_rfl) (fun _ _ _ h => h) (Or.inl ⟨by rfl, ?_⟩) (by assumption) ?_
      rotate_left
      · intro w hSw
        try dsimp only at hSw
        go_simp
        all_goals with_reducible rfl
      try simp only [Act.put, List.setIfInBounds_toArray, List.set_cons_zero, List.set_cons_succ]
      refine wpAnyH_take (i := 6) (oi := Oper.mk _ _ _ _ _ _) (v := ?_) rfl (by kernel_rfl) (by kernel_rfl) (by kernel_rfl) (fun _ _ _ h => h) (Or.inl ⟨by rfl, ?_⟩) (by assumption) ?_
      rotate_left
      · intro w hSw
        try dsimp only at hSw
        go_simp
        all_goals with_reducible rfl
      try simp only [Act.put, List.setIfInBounds_toArray, List.set_cons_zero, List.set_cons_succ]
      refine wpAnyH_ready (rs := [4, 7]) (by kernel_rfl) (by simp) ?_
      refine AllReadyH.cons (o := Oper.mk _ _ _ _ _ _) rfl (fun K hK => ?_) ?_
      · skip
        go_simp
        refine hK.out _ _ (by assumption) (fun hHeld => ?_)
        clear hK K
        try simp only [Act.put, List.setIfInBounds_toArray, List.set_cons_zero, List.set_cons_succ]
        refine wpAnyH_ready (rs := [7]) (by kernel_rfl) (by simp) ?_
        refine AllReadyH.cons (o := Oper.mk _ _ _ _ _ _) rfl (fun K hK => ?_) AllReadyH.nil
        go_simp
        refine hK.out _ _ ⟨z0, z1, z2⟩ (fun hHeld => ?_)
        clear hK K
        try simp only [Act.put, List.setIfInBounds_toArray, List.set_cons_zero, List.set_cons_succ]
        refine wpAnyH_ready (rs := [8]) (by kernel_rfl) (by simp) ?_
        refine AllReadyH.cons (o := Oper.mk _ _ _ _ _ _) rfl (fun K hK => ?_) AllReadyH.nil
        go_simp
        refine Calls.mono HI.out ?_
        rintro e w5 ⟨g5, c5, rfl, ho5, hg5⟩
        rw [← hil] at ho5
        obtain ⟨hbel5, hbD5⟩ := DVf.out.grown hg5 rfl
        have hlt := (Array.getElem?_eq_some_iff.1 KFf.out).1
        have KF5 := mkHid ((hg5.block F hlt (fun e => HgF.out F e.symm rfl)).trans KFf.out)
        have HP : Hid (HPost W B D r l2 0 (.returned (.int .i64 0)) _) := mkHid ⟨rfl, _, DVf.out.put hg5 rfl ho5⟩
        rw [hil] at HP
        obtain ⟨t0, t1⟩ := cel2 hbD5
        have tf := unfrozen hbD5
        obtain ⟨m0, m1, m2⟩ := cel3 KF5.out
        clear ho5 hg5 hbel5 hbD5
        show K _ _
        refine hK.out _ _ ⟨m0, m1, m2⟩ (fun hHeld => ?_)
        clear hK K
        try simp only [Act.put, List.setIfInBounds_toArray, List.set_cons_zero, List.set_cons_succ]
        refine wpAnyH_take (i := 9) (oi := Oper.mk _ _ _ _ _ _) (v := ?_) rfl (by kernel_rfl) (by kernel_rfl) (by kernel_rfl) (fun _ _ _ h => h) (Or.inl ⟨by rfl, ?_⟩) (by assumption) ?_
        rotate_left
        · intro w hSw
          try dsimp only at hSw
          go_simp
          all_goals with_reducible rfl
        try simp only [Act.put, List.setIfInBounds_toArray, List.set_cons_zero, List.set_cons_succ]
        refine wpAnyH_take (i := 10) (oi := Oper.mk _ _ _ _ _ _) (v := ?_) rfl (by kernel_rfl) (by kernel_rfl) (by kernel_rfl) (fun _ _ _ h => h) (Or.inl ⟨by rfl, ?_⟩) (by assumption) ?_
        rotate_left
        · intro w hSw
          try dsimp only at hSw
          go_simp
          all_goals with_reducible rfl
        try simp only [Act.put, List.setIfInBounds_toArray, List.set_cons_zero, List.set_cons_succ]
        refine wpAnyH_ready (rs := [11]) (by kernel_rfl) (by simp) ?_
        refine AllReadyH.cons (o := Oper.mk _ _ _ _ _ _) rfl (fun K hK => ?_) AllReadyH.nil
        go_simp
        refine hK.out _ _ (by go_keep) (fun hHeld => ?_)
        clear hK K
        try simp only [Act.put, List.setIfInBounds_toArray, List.set_cons_zero, List.set_cons_succ]
        refine wpAnyH_done (by kernel_rfl) ?_ _
        go_wp2
        go_ret
        first
          | exact HP.out
          | exact hpost_drew HP.out
      refine AllReadyH.cons (o := Oper.mk _ _ _ _ _ _) rfl (fun K hK => ?_) AllReadyH.nil
      go_simp
      refine hK.out _ _ ⟨z0, z1, z2⟩ (fun hHeld => ?_)
      clear hK K
      try simp only [Act.put, List.setIfInBounds_toArray, List.set_cons_zero, List.set_cons_succ]
      refine wpAnyH_ready (rs := [4]) (by kernel_rfl) (by simp) ?_
      refine AllReadyH.cons (o := Oper.mk _ _ _ _ _ _) rfl (fun K hK => ?_) AllReadyH.nil
      go_simp
      refine hK.out _ _ (by assumption) (fun hHeld => ?_)
      clear hK K
      try simp only [Act.put, List.setIfInBounds_toArray, List.set_cons_zero, List.set_cons_succ]
      refine wpAnyH_ready (rs := [8]) (by kernel_rfl) (by simp) ?_
      refine AllReadyH.cons (o := Oper.mk _ _ _ _ _ _) rfl (fun K hK => ?_) AllReadyH.nil
      go_simp
      refine Calls.mono HI.out ?_
      rintro e w5 ⟨g5, c5, rfl, ho5, hg5⟩
      rw [← hil] at ho5
      obtain ⟨hbel5, hbD5⟩ := DVf.out.grown hg5 rfl
      have hlt := (Array.getElem?_eq_some_iff.1 KFf.out).1
      have KF5 := mkHid ((hg5.block F hlt (fun e => HgF.out F e.symm rfl)).trans KFf.out)
      have HP : Hid (HPost W B D r l2 0 (.returned (.int .i64 0)) _) := mkHid ⟨rfl, _, DVf.out.put hg5 rfl ho5⟩
      rw [hil] at HP
      obtain ⟨t0, t1⟩ := cel2 hbD5
      have tf := unfrozen hbD5
      obtain ⟨m0, m1, m2⟩ := cel3 KF5.out
      clear ho5 hg5 hbel5 hbD5
      show K _ _
      refine hK.out _ _ ⟨m0, m1, m2⟩ (fun hHeld => ?_)
      clear hK K
      try simp only [Act.put, List.setIfInBounds_toArray, List.set_cons_zero, List.set_cons_succ]
      refine wpAnyH_take (i := 9) (oi := Oper.mk _ _ _ _ _ _) (v := ?_) rfl (by kernel_rfl) (by kernel_rfl) (by kernel_rfl) (fun _ _ _ h => h) (Or.inl ⟨by rfl, ?_⟩) (by assumption) ?_
      rotate_left
      · intro w hSw
        try dsimp only at hSw
        go_simp
        all_goals with_reducible rfl
      try simp only [Act.put, List.setIfInBounds_toArray, List.set_cons_zero, List.set_cons_succ]
      refine wpAnyH_take (i := 10) (oi := Oper.mk _ _ _ _ _ _) (v := ?_) rfl (by kernel_rfl) (by kernel_rfl) (by kernel_rfl) (fun _ _ _ h => h) (Or.inl ⟨by rfl, ?_⟩) (by assumption) ?_
      rotate_left
      · intro w hSw
        try dsimp only at hSw
        go_simp
        all_goals with_reducible rfl
      try simp only [Act.put, List.setIfInBounds_toArray, List.set_cons_zero, List.set_cons_succ]
      refine wpAnyH_ready (rs := [11]) (by kernel_rfl) (by simp) ?_
      refine AllReadyH.cons (o := Oper.mk _ _ _ _ _ _) rfl (fun K hK => ?_) AllReadyH.nil
      go_simp
      refine hK.out _ _ (by go_keep) (fun hHeld => ?_)
      clear hK K
      try simp only [Act.put, List.setIfInBounds_toArray, List.set_cons_zero, List.set_cons_succ]
      refine wpAnyH_done (by kernel_rfl) ?_ _
      go_wp2
      go_ret
      first
        | exact HP.out
        | exact hpost_drew HP.out
    refine AllReadyH.cons (o := Oper.mk _ _ _ _ _ _) rfl (fun K hK => ?_) AllReadyH.nil
    have KF := mkHid (blk_new wc (.cells #[.string ⟨#[]⟩, .string ⟨#[]⟩, .int .i64 0] 39) wc.heap.size rfl)
    have KA := mkHid (blk_old KA.out (.cells #[.string ⟨#[]⟩, .string ⟨#[]⟩, .int .i64 0] 39))
    have DVp := DVc
    have hVF : V.heap.size ≤ wc.heap.size := HV.out
    have HV : Hid (V.heap.size ≤ (wc.alloc (.cells #[.string ⟨#[]⟩, .string ⟨#[]⟩, .int .i64 0] 39)).heap.size) := mkHid (by simp <;> omega)
    have DVc := mkHid (DVc.out.next (below_alloc1 _ (.cells #[.string ⟨#[]⟩, .string ⟨#[]⟩, .int .i64 0] 39)))
    obtain ⟨a0, a1, a2, a3⟩ := cel4 KA.out
    go_simp
    refine hK.out _ _ ⟨a1, a3⟩ (fun hHeld => ?_)
    clear hK K
    try simp only [Act.put, List.setIfInBounds_toArray, List.set_cons_zero, List.set_cons_succ]
    refine wpAnyH_ready (rs := [5]) (by kernel_rfl) (by simp) ?_
    refine AllReadyH.cons (o := Oper.mk _ _ _ _ _ _) rfl (fun K hK => ?_) AllReadyH.nil
    go_simp
    refine Calls.mono (HCx.out _) ?_
    rintro e wd ⟨rfl, hbc⟩
    have DVc := mkHid (DVc.out.next (re hbc rfl rfl rfl rfl))
    have KA := mkHid (blk_below KA.out (re hbc rfl rfl rfl rfl))
    have HV := mkHid (Nat.le_trans HV.out hbc.size)
    obtain ⟨a0, a1, a2, a3⟩ := cel4 KA.out
    have KF := mkHid (blk_below KF.out (re hbc rfl rfl rfl rfl))
    clear hbc
    show K _ _
    refine hK.out _ _ ⟨a1, a3⟩ (fun hHeld => ?_)
    clear hK K
    try simp only [Act.put, List.setIfInBounds_toArray, List.set_cons_zero, List.set_cons_succ]
    refine wpAnyH_take (i := 6) (oi := Oper.mk _ _ _ _ _ _) (v := ?_) rfl (by kernel_rfl) (by kernel_rfl) (by kernel_rfl) (fun _ _ _ h => h) (Or.inl ⟨by rfl, ?_⟩) (by assumption) ?_
    rotate_left
    · intro w hSw
      try dsimp only at hSw
      go_simp
      all_goals with_reducible rfl
    try simp only [Act.put, List.setIfInBounds_toArray, List.set_cons_zero, List.set_cons_succ]
    refine wpAnyH_ready (rs := [8]) (by kernel_rfl) (by simp) ?_
    refine AllReadyH.cons (o := Oper.mk _ _ _ _ _ _) rfl (fun K hK => ?_) AllReadyH.nil
    obtain ⟨k0, k1, k2⟩ := cel3 KF.out
    have kf := unfrozen KF.out
    have hAF : w2'.heap.size ≠ wc.heap.size := by omega
    have hFA : wc.heap.size ≠ w2'.heap.size := by omega
    go_simp
    refine hK.out _ _ (by go_keep) (fun hHeld => ?_)
    clear hK K
    try simp only [Act.put, List.setIfInBounds_toArray, List.set_cons_zero, List.set_cons_succ]
    refine wpAnyH_done (by kernel_rfl) ?_ _
    have DVe : Hid (Dr W B D r l (.slice va l.length vc) (((wd.setCell ⟨wc.heap.size, 0, none⟩ (.string n)).setCell ⟨wc.heap.size, 1, none⟩ (.string x)).setCell ⟨wc.heap.size, 2, none⟩ (.int .i64 0))) := mkHid ((DVc.out.other (F := wc.heap.size) (grew3 _ _ _ _ _ _ _ _) (fun e => by have := HgV.out _ e; omega) (by omega) (by have := DVc.out.bd; omega)))
    have KFe : Hid ((((wd.setCell ⟨wc.heap.size, 0, none⟩ (.string n)).setCell ⟨wc.heap.size, 1, none⟩ (.string x)).setCell ⟨wc.heap.size, 2, none⟩ (.int .i64 0)).heap[wc.heap.size]? = some (.cells #[.string n, .string x, .int .i64 0] 39)) := mkHid (set_file _ _ _ KF.out)
    have HgF : Hid (∀ k, (Value.slice va l.length vc).ownBlock = some k → k ≠ wc.heap.size) := mkHid (fun k e => by have := HgV.out k e; omega)
    have hDF : D ≠ wc.heap.size := by omega
    have hFD : wc.heap.size ≠ D := by omega
    clear DVc DVp KA KF HV a0 a1 a2 a3 HgV
    try clear k0 k1 k2 kf
    generalize (((wd.setCell ⟨wc.heap.size, 0, none⟩ (.string n)).setCell ⟨wc.heap.size, 1, none⟩ (.string x)).setCell ⟨wc.heap.size, 2, none⟩ (.int .i64 0)) = wE at *
    generalize wc.heap.size = F at *
    have hbE : B ≤ (wE.alloc (.cells #[.string n, .string x, .int .i64 0] 39)).heap.size := by have := DVe.out.size; have := DVe.out.bd; simp; omega
    have HI := mkHid (insert_any B (.slice va l.length vc) p l.length wE.heap.size l n x 0 (wE.alloc (.cells #[.string n, .string x, .int .i64 0] 39)).drew rfl hsl hl hbE (fun e => by have := (DVe.out.o.lt _ e).2; omega) (DVe.out.o.alloc (.cells #[.string n, .string x, .int .i64 0] 39)) (blk_new wE (.cells #[.string n, .string x, .int .i64 0] 39) wE.heap.size rfl))
    unfold IPost at HI
    have hil : (ins l p (n, x, 0)).length = l.length + 1 := ins_len hsl
    generalize ins l p (n, x, 0) = l2 at *
    have DVf := mkHid ((DVe.out.next (below_alloc1 wE (.cells #[.string n, .string x, .int .i64 0] 39))).next (drew_below _))
    have KFf := mkHid (blk_old KFe.out (.cells #[.string n, .string x, .int .i64 0] 39))
    obtain ⟨y0, y1, y2⟩ := cel3 KFe.out
    obtain ⟨z0, z1, z2⟩ := cel3 KFf.out
    obtain ⟨u0, u1⟩ := cel2 DVe.out.b
    obtain ⟨s0, s1⟩ := cel2 DVf.out.b
    go_wp2_with fail
    refine wp_region_held_drew (S := fun w' => w'.cell? ⟨F, 0, none⟩ = some (.string n) ∧ w'.cell? ⟨F, 1, none⟩ = some (.string x) ∧ w'.cell? ⟨F, 2, none⟩ = some (.int .i64 0)) (by kernel_rfl) (by exact ⟨y0, y1, y2⟩) (fun hHeld => ?_)
    refine wpAnyH_take (i := 0) (oi := Oper.mk _ _ _ _ _ _) (v := ?_) rfl (by kernel_rfl) (by kernel_rfl) (by kernel_rfl) (fun _ _ _ h => h) (Or.inl ⟨by rfl, ?_⟩) (by assumption) ?_
    rotate_left
    · intro w hSw
      try dsimp only at hSw
      go_simp
      all_goals with_reducible rfl
    try simp only [Act.put, List.setIfInBounds_toArray, List.set_cons_zero, List.set_cons_succ]
    refine wpAnyH_take (i := 1) (oi := Oper.mk _ _ _ _ _ _) (v := ?_) rfl (by kernel_rfl) (by kernel_rfl) (by kernel_rfl) (fun _ _ _ h => h) (Or.inl ⟨by rfl, ?_⟩) (by assumption) ?_
    rotate_left
    · intro w hSw
      try dsimp only at hSw
      go_simp
      all_goals with_reducible rfl
    try simp only [Act.put, List.setIfInBounds_toArray, List.set_cons_zero, List.set_cons_succ]
    refine wpAnyH_take (i := 2) (oi := Oper.mk _ _ _ _ _ _) (v := ?_) rfl (by kernel_rfl) (by kernel_rfl) (by kernel_rfl) (fun _ _ _ h => h) (Or.inl ⟨by rfl, ?_⟩) (by assumption) ?_
    rotate_left
    · intro w hSw
      try dsimp only at hSw
      go_simp
      all_goals with_reducible rfl
    try simp only [Act.put, List.setIfInBounds_toArray, List.set_cons_zero, List.set_cons_succ]
    refine wpAnyH_take (i := 3) (oi := Oper.mk _ _ _ _ _ _) (v := ?_) rfl (by kernel_rfl) (by kernel_rfl) (by kernel_rfl) (fun _ _ _ h => h) (Or.inl ⟨by rfl, ?_⟩) (by assumption) ?_
    rotate_left
    · intro w hSw
      try dsimp only at hSw
      go_simp
      all_goals with_reducible rfl
    try simp only [Act.put, List.setIfInBounds_toArray, List.set_cons_zero, List.set_cons_succ]
    refine wpAnyH_take (i := 5) (oi := Oper.mk _ _ _ _ _ _) (v := ?_) rfl (by kernel_rfl) (by kernel_rfl) (by kernel_rfl) (fun _ _ _ h => h) (Or.inl ⟨by rfl, ?_⟩) (by assumption) ?_
    rotate_left
    · intro w hSw
      try dsimp only at hSw
      go_simp
      all_goals with_reducible rfl
    try simp only [Act.put, List.setIfInBounds_toArray, List.set_cons_zero, List.set_cons_succ]
    refine wpAnyH_take (i := 6) (oi := Oper.mk _ _ _ _ _ _) (v := ?_) rfl (by kernel_rfl) (by kernel_rfl) (by kernel_rfl) (fun _ _ _ h => h) (Or.inl ⟨by rfl, ?_⟩) (by assumption) ?_
    rotate_left
    · intro w hSw
      try dsimp only at hSw
      go_simp
      all_goals with_reducible rfl
    try simp only [Act.put, List.setIfInBounds_toArray, List.set_cons_zero, List.set_cons_succ]
    refine wpAnyH_ready (rs := [4, 7]) (by kernel_rfl) (by simp) ?_
    refine AllReadyH.cons (o := Oper.mk _ _ _ _ _ _) rfl (fun K hK => ?_) ?_
    · skip
      go_simp
      refine hK.out _ _ (by assumption) (fun hHeld => ?_)
      clear hK K
      try simp only [Act.put, List.setIfInBounds_toArray, List.set_cons_zero, List.set_cons_succ]
      refine wpAnyH_ready (rs := [7]) (by kernel_rfl) (by simp) ?_
      refine AllReadyH.cons (o := Oper.mk _ _ _ _ _ _) rfl (fun K hK => ?_) AllReadyH.nil
      go_simp
      refine hK.out _ _ ⟨z0, z1, z2⟩ (fun hHeld => ?_)
      clear hK K
      try simp only [Act.put, List.setIfInBounds_toArray, List.set_cons_zero, List.set_cons_succ]
      refine wpAnyH_ready (rs := [8]) (by kernel_rfl) (by simp) ?_
      refine AllReadyH.cons (o := Oper.mk _ _ _ _ _ _) rfl (fun K hK => ?_) AllReadyH.nil
      go_simp
      refine Calls.mono HI.out ?_
      rintro e w5 ⟨g5, c5, rfl, ho5, hg5⟩
      rw [← hil] at ho5
      obtain ⟨hbel5, hbD5⟩ := DVf.out.grown hg5 rfl
      have hlt := (Array.getElem?_eq_some_iff.1 KFf.out).1
      have KF5 := mkHid ((hg5.block F hlt (fun e => HgF.out F e.symm rfl)).trans KFf.out)
      have HP : Hid (HPost W B D r l2 0 (.returned (.int .i64 0)) _) := mkHid ⟨rfl, _, DVf.out.put hg5 rfl ho5⟩
      rw [hil] at HP
      obtain ⟨t0, t1⟩ := cel2 hbD5
      have tf := unfrozen hbD5
      obtain ⟨m0, m1, m2⟩ := cel3 KF5.out
      clear ho5 hg5 hbel5 hbD5
      show K _ _
      refine hK.out _ _ ⟨m0, m1, m2⟩ (fun hHeld => ?_)
      clear hK K
      try simp only [Act.put, List.setIfInBounds_toArray, List.set_cons_zero, List.set_cons_succ]
      refine wpAnyH_take (i := 9) (oi := Oper.mk _ _ _ _ _ _) (v := ?_) rfl (by kernel_rfl) (by kernel_rfl) (by kernel_rfl) (fun _ _ _ h => h) (Or.inl ⟨by rfl, ?_⟩) (by assumption) ?_
      rotate_left
      · intro w hSw
        try dsimp only at hSw
        go_simp
        all_goals with_reducible rfl
      try simp only [Act.put, List.setIfInBounds_toArray, List.set_cons_zero, List.set_cons_succ]
      refine wpAnyH_take (i := 10) (oi := Oper.mk _ _ _ _ _ _) (v := ?_) rfl (by kernel_rfl) (by kernel_rfl) (by kernel_rfl) (fun _ _ _ h => h) (Or.inl ⟨by rfl, ?_⟩) (by assumption) ?_
      rotate_left
      · intro w hSw
        try dsimp only at hSw
        go_simp
        all_goals with_reducible rfl
      try simp only [Act.put, List.setIfInBounds_toArray, List.set_cons_zero, List.set_cons_succ]
      refine wpAnyH_ready (rs := [11]) (by kernel_rfl) (by simp) ?_
      refine AllReadyH.cons (o := Oper.mk _ _ _ _ _ _) rfl (fun K hK => ?_) AllReadyH.nil
      go_simp
      refine hK.out _ _ (by go_keep) (fun hHeld => ?_)
      clear hK K
      try simp only [Act.put, List.setIfInBounds_toArray, List.set_cons_zero, List.set_cons_succ]
      refine wpAnyH_done (by kernel_rfl) ?_ _
      go_wp2
      go_ret
      first
        | exact HP.out
        | exact hpost_drew HP.out
    refine AllReadyH.cons (o := Oper.mk _ _ _ _ _ _) rfl (fun K hK => ?_) AllReadyH.nil
    go_simp
    refine hK.out _ _ ⟨z0, z1, z2⟩ (fun hHeld => ?_)
    clear hK K
    try simp only [Act.put, List.setIfInBounds_toArray, List.set_cons_zero, List.set_cons_succ]
    refine wpAnyH_ready (rs := [4]) (by kernel_rfl) (by simp) ?_
    refine AllReadyH.cons (o := Oper.mk _ _ _ _ _ _) rfl (fun K hK => ?_) AllReadyH.nil
    go_simp
    refine hK.out _ _ (by assumption) (fun hHeld => ?_)
    clear hK K
    try simp only [Act.put, List.setIfInBounds_toArray, List.set_cons_zero, List.set_cons_succ]
    refine wpAnyH_ready (rs := [8]) (by kernel_rfl) (by simp) ?_
    refine AllReadyH.cons (o := Oper.mk _ _ _ _ _ _) rfl (fun K hK => ?_) AllReadyH.nil
    go_simp
    refine Calls.mono HI.out ?_
    rintro e w5 ⟨g5, c5, rfl, ho5, hg5⟩
    rw [← hil] at ho5
    obtain ⟨hbel5, hbD5⟩ := DVf.out.grown hg5 rfl
    have hlt := (Array.getElem?_eq_some_iff.1 KFf.out).1
    have KF5 := mkHid ((hg5.block F hlt (fun e => HgF.out F e.symm rfl)).trans KFf.out)
    have HP : Hid (HPost W B D r l2 0 (.returned (.int .i64 0)) _) := mkHid ⟨rfl, _, DVf.out.put hg5 rfl ho5⟩
    rw [hil] at HP
    obtain ⟨t0, t1⟩ := cel2 hbD5
    have tf := unfrozen hbD5
    obtain ⟨m0, m1, m2⟩ := cel3 KF5.out
    clear ho5 hg5 hbel5 hbD5
    show K _ _
    refine hK.out _ _ ⟨m0, m1, m2⟩ (fun hHeld => ?_)
    clear hK K
    try simp only [Act.put, List.setIfInBounds_toArray, List.set_cons_zero, List.set_cons_succ]
    refine wpAnyH_take (i := 9) (oi := Oper.mk _ _ _ _ _ _) (v := ?_) rfl (by kernel_rfl) (by kernel_rfl) (by kernel_rfl) (fun _ _ _ h => h) (Or.inl ⟨by rfl, ?_⟩) (by assumption) ?_
    rotate_left
    · intro w hSw
      try dsimp only at hSw
      go_simp
      all_goals with_reducible rfl
    try simp only [Act.put, List.setIfInBounds_toArray, List.set_cons_zero, List.set_cons_succ]
    refine wpAnyH_take (i := 10) (oi := Oper.mk _ _ _ _ _ _) (v := ?_) rfl (by kernel_rfl) (by kernel_rfl) (by kernel_rfl) (fun _ _ _ h => h) (Or.inl ⟨by rfl, ?_⟩) (by assumption) ?_
    rotate_left
    · intro w hSw
      try dsimp only at hSw
      go_simp
      all_goals with_reducible rfl
    try simp only [Act.put, List.setIfInBounds_toArray, List.set_cons_zero, List.set_cons_succ]
    refine wpAnyH_ready (rs := [11]) (by kernel_rfl) (by simp) ?_
    refine AllReadyH.cons (o := Oper.mk _ _ _ _ _ _) rfl (fun K hK => ?_) AllReadyH.nil
    go_simp
    refine hK.out _ _ (by go_keep) (fun hHeld => ?_)
    clear hK K
    try simp only [Act.put, List.setIfInBounds_toArray, List.set_cons_zero, List.set_cons_succ]
    refine wpAnyH_done (by kernel_rfl) ?_ _
    go_wp2
    go_ret
    first
      | exact HP.out
      | exact hpost_drew HP.out
  refine AllReadyH.cons (o := Oper.mk _ _ _ _ _ _) rfl (fun K hK => ?_) AllReadyH.nil
  have KF := mkHid (blk_new V (.cells #[.string ⟨#[]⟩, .string ⟨#[]⟩, .int .i64 0] 39) V.heap.size rfl)
  have KA := mkHid (blk_old KA.out (.cells #[.string ⟨#[]⟩, .string ⟨#[]⟩, .int .i64 0] 39))
  have DVp := DVc
  have hVF : V.heap.size ≤ V.heap.size := HV.out
  have HV : Hid (V.heap.size ≤ (V.alloc (.cells #[.string ⟨#[]⟩, .string ⟨#[]⟩, .int .i64 0] 39)).heap.size) := mkHid (by simp <;> omega)
  have DVc := mkHid (DVc.out.next (below_alloc1 _ (.cells #[.string ⟨#[]⟩, .string ⟨#[]⟩, .int .i64 0] 39)))
  obtain ⟨a0, a1, a2, a3⟩ := cel4 KA.out
  go_simp
  refine hK.out _ _ ⟨a1, a3⟩ (fun hHeld => ?_)
  clear hK K
  try simp only [Act.put, List.setIfInBounds_toArray, List.set_cons_zero, List.set_cons_succ]
  refine wpAnyH_ready (rs := [2]) (by kernel_rfl) (by simp) ?_
  refine AllReadyH.cons (o := Oper.mk _ _ _ _ _ _) rfl (fun K hK => ?_) AllReadyH.nil
  go_simp
  refine Calls.mono (HCn.out _) ?_
  rintro e wc ⟨rfl, hbc⟩
  have DVc := mkHid (DVc.out.next (re hbc rfl rfl rfl rfl))
  have KA := mkHid (blk_below KA.out (re hbc rfl rfl rfl rfl))
  have HV := mkHid (Nat.le_trans HV.out hbc.size)
  obtain ⟨a0, a1, a2, a3⟩ := cel4 KA.out
  have KF := mkHid (blk_below KF.out (re hbc rfl rfl rfl rfl))
  clear hbc
  show K _ _
  refine hK.out _ _ ⟨a1, a3⟩ (fun hHeld => ?_)
  clear hK K
  try simp only [Act.put, List.setIfInBounds_toArray, List.set_cons_zero, List.set_cons_succ]
  refine wpAnyH_ready (rs := [5]) (by kernel_rfl) (by simp) ?_
  refine AllReadyH.cons (o := Oper.mk _ _ _ _ _ _) rfl (fun K hK => ?_) AllReadyH.nil
  go_simp
  refine Calls.mono (HCx.out _) ?_
  rintro e wd ⟨rfl, hbc⟩
  have DVc := mkHid (DVc.out.next (re hbc rfl rfl rfl rfl))
  have KA := mkHid (blk_below KA.out (re hbc rfl rfl rfl rfl))
  have HV := mkHid (Nat.le_trans HV.out hbc.size)
  obtain ⟨a0, a1, a2, a3⟩ := cel4 KA.out
  have KF := mkHid (blk_below KF.out (re hbc rfl rfl rfl rfl))
  clear hbc
  show K _ _
  refine hK.out _ _ ⟨a1, a3⟩ (fun hHeld => ?_)
  clear hK K
  try simp only [Act.put, List.setIfInBounds_toArray, List.set_cons_zero, List.set_cons_succ]
  refine wpAnyH_take (i := 6) (oi := Oper.mk _ _ _ _ _ _) (v := ?_) rfl (by kernel_rfl) (by kernel_rfl) (by kernel_rfl) (fun _ _ _ h => h) (Or.inl ⟨by rfl, ?_⟩) (by assumption) ?_
  rotate_left
  · intro w hSw
    try dsimp only at hSw
    go_simp
    all_goals with_reducible rfl
  try simp only [Act.put, List.setIfInBounds_toArray, List.set_cons_zero, List.set_cons_succ]
  refine wpAnyH_ready (rs := [8]) (by kernel_rfl) (by simp) ?_
  refine AllReadyH.cons (o := Oper.mk _ _ _ _ _ _) rfl (fun K hK => ?_) AllReadyH.nil
  obtain ⟨k0, k1, k2⟩ := cel3 KF.out
  have kf := unfrozen KF.out
  have hAF : w2'.heap.size ≠ V.heap.size := by omega
  have hFA : V.heap.size ≠ w2'.heap.size := by omega
  go_simp
  refine hK.out _ _ (by go_keep) (fun hHeld => ?_)
  clear hK K
  try simp only [Act.put, List.setIfInBounds_toArray, List.set_cons_zero, List.set_cons_succ]
  refine wpAnyH_done (by kernel_rfl) ?_ _
  have DVe : Hid (Dr W B D r l (.slice va l.length vc) (((wd.setCell ⟨V.heap.size, 0, none⟩ (.string n)).setCell ⟨V.heap.size, 1, none⟩ (.string x)).setCell ⟨V.heap.size, 2, none⟩ (.int .i64 0))) := mkHid ((DVc.out.other (F := V.heap.size) (grew3 _ _ _ _ _ _ _ _) (fun e => by have := HgV.out _ e; omega) (by omega) (by have := DVc.out.bd; omega)))
  have KFe : Hid ((((wd.setCell ⟨V.heap.size, 0, none⟩ (.string n)).setCell ⟨V.heap.size, 1, none⟩ (.string x)).setCell ⟨V.heap.size, 2, none⟩ (.int .i64 0)).heap[V.heap.size]? = some (.cells #[.string n, .string x, .int .i64 0] 39)) := mkHid (set_file _ _ _ KF.out)
  have HgF : Hid (∀ k, (Value.slice va l.length vc).ownBlock = some k → k ≠ V.heap.size) := mkHid (fun k e => by have := HgV.out k e; omega)
  have hDF : D ≠ V.heap.size := by omega
  have hFD : V.heap.size ≠ D := by omega
  clear DVc DVp KA KF HV a0 a1 a2 a3 HgV
  try clear k0 k1 k2 kf
  generalize (((wd.setCell ⟨V.heap.size, 0, none⟩ (.string n)).setCell ⟨V.heap.size, 1, none⟩ (.string x)).setCell ⟨V.heap.size, 2, none⟩ (.int .i64 0)) = wE at *
  generalize V.heap.size = F at *
  have hbE : B ≤ (wE.alloc (.cells #[.string n, .string x, .int .i64 0] 39)).heap.size := by have := DVe.out.size; have := DVe.out.bd; simp; omega
  have HI := mkHid (insert_any B (.slice va l.length vc) p l.length wE.heap.size l n x 0 (wE.alloc (.cells #[.string n, .string x, .int .i64 0] 39)).drew rfl hsl hl hbE (fun e => by have := (DVe.out.o.lt _ e).2; omega) (DVe.out.o.alloc (.cells #[.string n, .string x, .int .i64 0] 39)) (blk_new wE (.cells #[.string n, .string x, .int .i64 0] 39) wE.heap.size rfl))
  unfold IPost at HI
  have hil : (ins l p (n, x, 0)).length = l.length + 1 := ins_len hsl
  generalize ins l p (n, x, 0) = l2 at *
  have DVf := mkHid ((DVe.out.next (below_alloc1 wE (.cells #[.string n, .string x, .int .i64 0] 39))).next (drew_below _))
  have KFf := mkHid (blk_old KFe.out (.cells #[.string n, .string x, .int .i64 0] 39))
  obtain ⟨y0, y1, y2⟩ := cel3 KFe.out
  obtain ⟨z0, z1, z2⟩ := cel3 KFf.out
  obtain ⟨u0, u1⟩ := cel2 DVe.out.b
  obtain ⟨s0, s1⟩ := cel2 DVf.out.b
  go_wp2_with fail
  refine wp_region_held_drew (S := fun w' => w'.cell? ⟨F, 0, none⟩ = some (.string n) ∧ w'.cell? ⟨F, 1, none⟩ = some (.string x) ∧ w'.cell? ⟨F, 2, none⟩ = some (.int .i64 0)) (by kernel_rfl) (by exact ⟨y0, y1, y2⟩) (fun hHeld => ?_)
  refine wpAnyH_take (i := 0) (oi := Oper.mk _ _ _ _ _ _) (v := ?_) rfl (by kernel_rfl) (by kernel_rfl) (by kernel_rfl) (fun _ _ _ h => h) (Or.inl ⟨by rfl, ?_⟩) (by assumption) ?_
  rotate_left
  · intro w hSw
    try dsimp only at hSw
    go_simp
    all_goals with_reducible rfl
  try simp only [Act.put, List.setIfInBounds_toArray, List.set_cons_zero, List.set_cons_succ]
  refine wpAnyH_take (i := 1) (oi := Oper.mk _ _ _ _ _ _) (v := ?_) rfl (by kernel_rfl) (by kernel_rfl) (by kernel_rfl) (fun _ _ _ h => h) (Or.inl ⟨by rfl, ?_⟩) (by assumption) ?_
  rotate_left
  · intro w hSw
    try dsimp only at hSw
    go_simp
    all_goals with_reducible rfl
  try simp only [Act.put, List.setIfInBounds_toArray, List.set_cons_zero, List.set_cons_succ]
  refine wpAnyH_take (i := 2) (oi := Oper.mk _ _ _ _ _ _) (v := ?_) rfl (by kernel_rfl) (by kernel_rfl) (by kernel_rfl) (fun _ _ _ h => h) (Or.inl ⟨by rfl, ?_⟩) (by assumption) ?_
  rotate_left
  · intro w hSw
    try dsimp only at hSw
    go_simp
    all_goals with_reducible rfl
  try simp only [Act.put, List.setIfInBounds_toArray, List.set_cons_zero, List.set_cons_succ]
  refine wpAnyH_take (i := 3) (oi := Oper.mk _ _ _ _ _ _) (v := ?_) rfl (by kernel_rfl) (by kernel_rfl) (by kernel_rfl) (fun _ _ _ h => h) (Or.inl ⟨by rfl, ?_⟩) (by assumption) ?_
  rotate_left
  · intro w hSw
    try dsimp only at hSw
    go_simp
    all_goals with_reducible rfl
  try simp only [Act.put, List.setIfInBounds_toArray, List.set_cons_zero, List.set_cons_succ]
  refine wpAnyH_take (i := 5) (oi := Oper.mk _ _ _ _ _ _) (v := ?_) rfl (by kernel_rfl) (by kernel_rfl) (by kernel_rfl) (fun _ _ _ h => h) (Or.inl ⟨by rfl, ?_⟩) (by assumption) ?_
  rotate_left
  · intro w hSw
    try dsimp only at hSw
    go_simp
    all_goals with_reducible rfl
  try simp only [Act.put, List.setIfInBounds_toArray, List.set_cons_zero, List.set_cons_succ]
  refine wpAnyH_take (i := 6) (oi := Oper.mk _ _ _ _ _ _) (v := ?_) rfl (by kernel_rfl) (by kernel_rfl) (by kernel_rfl) (fun _ _ _ h => h) (Or.inl ⟨by rfl, ?_⟩) (by assumption) ?_
  rotate_left
  · intro w hSw
    try dsimp only at hSw
    go_simp
    all_goals with_reducible rfl
  try simp only [Act.put, List.setIfInBounds_toArray, List.set_cons_zero, List.set_cons_succ]
  refine wpAnyH_ready (rs := [4, 7]) (by kernel_rfl) (by simp) ?_
  refine AllReadyH.cons (o := Oper.mk _ _ _ _ _ _) rfl (fun K hK => ?_) ?_
  · skip
    go_simp
    refine hK.out _ _ (by assumption) (fun hHeld => ?_)
    clear hK K
    try simp only [Act.put, List.setIfInBounds_toArray, List.set_cons_zero, List.set_cons_succ]
    refine wpAnyH_ready (rs := [7]) (by kernel_rfl) (by simp) ?_
    refine AllReadyH.cons (o := Oper.mk _ _ _ _ _ _) rfl (fun K hK => ?_) AllReadyH.nil
    go_simp
    refine hK.out _ _ ⟨z0, z1, z2⟩ (fun hHeld => ?_)
    clear hK K
    try simp only [Act.put, List.setIfInBounds_toArray, List.set_cons_zero, List.set_cons_succ]
    refine wpAnyH_ready (rs := [8]) (by kernel_rfl) (by simp) ?_
    refine AllReadyH.cons (o := Oper.mk _ _ _ _ _ _) rfl (fun K hK => ?_) AllReadyH.nil
    go_simp
    refine Calls.mono HI.out ?_
    rintro e w5 ⟨g5, c5, rfl, ho5, hg5⟩
    rw [← hil] at ho5
    obtain ⟨hbel5, hbD5⟩ := DVf.out.grown hg5 rfl
    have hlt := (Array.getElem?_eq_some_iff.1 KFf.out).1
    have KF5 := mkHid ((hg5.block F hlt (fun e => HgF.out F e.symm rfl)).trans KFf.out)
    have HP : Hid (HPost W B D r l2 0 (.returned (.int .i64 0)) _) := mkHid ⟨rfl, _, DVf.out.put hg5 rfl ho5⟩
    rw [hil] at HP
    obtain ⟨t0, t1⟩ := cel2 hbD5
    have tf := unfrozen hbD5
    obtain ⟨m0, m1, m2⟩ := cel3 KF5.out
    clear ho5 hg5 hbel5 hbD5
    show K _ _
    refine hK.out _ _ ⟨m0, m1, m2⟩ (fun hHeld => ?_)
    clear hK K
    try simp only [Act.put, List.setIfInBounds_toArray, List.set_cons_zero, List.set_cons_succ]
    refine wpAnyH_take (i := 9) (oi := Oper.mk _ _ _ _ _ _) (v := ?_) rfl (by kernel_rfl) (by kernel_rfl) (by kernel_rfl) (fun _ _ _ h => h) (Or.inl ⟨by rfl, ?_⟩) (by assumption) ?_
    rotate_left
    · intro w hSw
      try dsimp only at hSw
      go_simp
      all_goals with_reducible rfl
    try simp only [Act.put, List.setIfInBounds_toArray, List.set_cons_zero, List.set_cons_succ]
    refine wpAnyH_take (i := 10) (oi := Oper.mk _ _ _ _ _ _) (v := ?_) rfl (by kernel_rfl) (by kernel_rfl) (by kernel_rfl) (fun _ _ _ h => h) (Or.inl ⟨by rfl, ?_⟩) (by assumption) ?_
    rotate_left
    · intro w hSw
      try dsimp only at hSw
      go_simp
      all_goals with_reducible rfl
    try simp only [Act.put, List.setIfInBounds_toArray, List.set_cons_zero, List.set_cons_succ]
    refine wpAnyH_ready (rs := [11]) (by kernel_rfl) (by simp) ?_
    refine AllReadyH.cons (o := Oper.mk _ _ _ _ _ _) rfl (fun K hK => ?_) AllReadyH.nil
    go_simp
    refine hK.out _ _ (by go_keep) (fun hHeld => ?_)
    clear hK K
    try simp only [Act.put, List.setIfInBounds_toArray, List.set_cons_zero, List.set_cons_succ]
    refine wpAnyH_done (by kernel_rfl) ?_ _
    go_wp2
    go_ret
    first
      | exact HP.out
      | exact hpost_drew HP.out
  refine AllReadyH.cons (o := Oper.mk _ _ _ _ _ _) rfl (fun K hK => ?_) AllReadyH.nil
  go_simp
  refine hK.out _ _ ⟨z0, z1, z2⟩ (fun hHeld => ?_)
  clear hK K
  try simp only [Act.put, List.setIfInBounds_toArray, List.set_cons_zero, List.set_cons_succ]
  refine wpAnyH_ready (rs := [4]) (by kernel_rfl) (by simp) ?_
  refine AllReadyH.cons (o := Oper.mk _ _ _ _ _ _) rfl (fun K hK => ?_) AllReadyH.nil
  go_simp
  refine hK.out _ _ (by assumption) (fun hHeld => ?_)
  clear hK K
  try simp only [Act.put, List.setIfInBounds_toArray, List.set_cons_zero, List.set_cons_succ]
  refine wpAnyH_ready (rs := [8]) (by kernel_rfl) (by simp) ?_
  refine AllReadyH.cons (o := Oper.mk _ _ _ _ _ _) rfl (fun K hK => ?_) AllReadyH.nil
  go_simp
  refine Calls.mono HI.out ?_
  rintro e w5 ⟨g5, c5, rfl, ho5, hg5⟩
  rw [← hil] at ho5
  obtain ⟨hbel5, hbD5⟩ := DVf.out.grown hg5 rfl
  have hlt := (Array.getElem?_eq_some_iff.1 KFf.out).1
  have KF5 := mkHid ((hg5.block F hlt (fun e => HgF.out F e.symm rfl)).trans KFf.out)
  have HP : Hid (HPost W B D r l2 0 (.returned (.int .i64 0)) _) := mkHid ⟨rfl, _, DVf.out.put hg5 rfl ho5⟩
  rw [hil] at HP
  obtain ⟨t0, t1⟩ := cel2 hbD5
  have tf := unfrozen hbD5
  obtain ⟨m0, m1, m2⟩ := cel3 KF5.out
  clear ho5 hg5 hbel5 hbD5
  show K _ _
  refine hK.out _ _ ⟨m0, m1, m2⟩ (fun hHeld => ?_)
  clear hK K
  try simp only [Act.put, List.setIfInBounds_toArray, List.set_cons_zero, List.set_cons_succ]
  refine wpAnyH_take (i := 9) (oi := Oper.mk _ _ _ _ _ _) (v := ?_) rfl (by kernel_rfl) (by kernel_rfl) (by kernel_rfl) (fun _ _ _ h => h) (Or.inl ⟨by rfl, ?_⟩) (by assumption) ?_
  rotate_left
  · intro w hSw
    try dsimp only at hSw
    go_simp
    all_goals with_reducible rfl
  try simp only [Act.put, List.setIfInBounds_toArray, List.set_cons_zero, List.set_cons_succ]
  refine wpAnyH_take (i := 10) (oi := Oper.mk _ _ _ _ _ _) (v := ?_) rfl (by kernel_rfl) (by kernel_rfl) (by kernel_rfl) (fun _ _ _ h => h) (Or.inl ⟨by rfl, ?_⟩) (by assumption) ?_
  rotate_left
  · intro w hSw
    try dsimp only at hSw
    go_simp
    all_goals with_reducible rfl
  try simp only [Act.put, List.setIfInBounds_toArray, List.set_cons_zero, List.set_cons_succ]
  refine wpAnyH_ready (rs := [11]) (by kernel_rfl) (by simp) ?_
  refine AllReadyH.cons (o := Oper.mk _ _ _ _ _ _) rfl (fun K hK => ?_) AllReadyH.nil
  go_simp
  refine hK.out _ _ (by go_keep) (fun hHeld => ?_)
  clear hK K
  try simp only [Act.put, List.setIfInBounds_toArray, List.set_cons_zero, List.set_cons_succ]
  refine wpAnyH_done (by kernel_rfl) ?_ _
  go_wp2
  go_ret
  first
    | exact HP.out
    | exact hpost_drew HP.out
end Go.Proofs.Ytfckgpmphcadeaa.drv
