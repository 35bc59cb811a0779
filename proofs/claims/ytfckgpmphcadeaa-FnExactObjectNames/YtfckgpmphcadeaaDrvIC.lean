/-
  What impl.copyDrive answers and leaves: a drive of the same files, in memory of its own. Conditions: at most 1,048,576 files, which lie in memory, of texts of at most 1,048,576 bytes.
-/
import Derived.Test.YtfckgpmphcadeaaDrvIR
import Derived.Test.YtfckgpmphcadeaaClone
namespace Go.Proofs.Ytfckgpmphcadeaa.drv
open Go.RowKit Go.Joins Go.Sort
open Go.Proofs.Ytfckgpmphcadeaa.base Go.Proofs.Ytfckgpmphcadeaa.blk Go.Proofs.Ytfckgpmphcadeaa.aid
open Go.Proofs.Ytfckgpmphcadeaa.row (Rd Own OwnV appSem app_fold)
open Go.Proofs.Ytfckgpmphcadeaa.rwStored (cs)
set_option linter.unusedVariables false

/-- while a file is copied: what lies where -/
structure Cp (w : World) (B : Nat) (r : Int) (v : Value) (k : Nat) (xs : List Value) (fo : Obj) (wx : World) : Prop where
  below : Below w.heap.size w wx
  sz : w.heap.size + 3 ≤ wx.heap.size
  br : wx.heap[w.heap.size + 1]? = some (.cells #[.slice none 0 0, .int .i64 0] 25)
  bo : wx.heap[w.heap.size + 2]? = some (.cells #[v, .int .i64 r] 25)
  own : wx.ownsRow (w.heap.size + 3) 39 3 v k xs
  bf : wx.heap[B]? = some fo
  hB : w.heap.size + 3 ≤ B
  ne : ∀ j, v.ownBlock = some j → j ≠ B
/-- between two files -/
structure Cl (w : World) (r : Int) (v : Value) (k : Nat) (xs : List Value) (wx : World) : Prop where
  below : Below w.heap.size w wx
  sz : w.heap.size + 3 ≤ wx.heap.size
  br : wx.heap[w.heap.size + 1]? = some (.cells #[.slice none 0 0, .int .i64 0] 25)
  bo : wx.heap[w.heap.size + 2]? = some (.cells #[v, .int .i64 r] 25)
  own : wx.ownsRow (w.heap.size + 3) 39 3 v k xs
theorem owns_below {w w' : World} {base e size n : Nat} {v : Value} {xs : List Value} (h : w.ownsRow base e size v n xs) (hb : Below w.heap.size w w') : w'.ownsRow base e size v n xs :=
  h.kept (row := none) ⟨hb.os, hb.tape, hb.output, hb.size, fun k hk _ => hb.block k hk⟩ (by cases hv : v.ownBlock <;> simp)
variable {w wx w' : World} {B : Nat} {r : Int} {v : Value} {k : Nat} {xs : List Value} {fo : Obj}
theorem Cl.file (h : Cl w r v k xs wx) (fo : Obj) : Cp w wx.heap.size r v k xs fo (wx.alloc fo) :=
  ⟨h.below.trans ((below_alloc1 wx fo).mono h.below.size), by simp; have := h.sz; omega, blk_old h.br _, blk_old h.bo _, h.own.alloc _, blk_new _ _ _ rfl, h.sz, fun j hj => by have := (h.own.lt j hj).2; omega⟩
theorem Cp.next (h : Cp w B r v k xs fo wx) (hb : Below wx.heap.size wx w') : Cp w B r v k xs fo w' :=
  ⟨h.below.trans (hb.mono h.below.size), Nat.le_trans h.sz hb.size, blk_below h.br hb, blk_below h.bo hb, owns_below h.own hb, blk_below h.bf hb, h.hB, h.ne⟩
/-- behind an append: the variable holds the old row yet -/
structure Ca (w : World) (B : Nat) (fo : Obj) (r : Int) (v v' : Value) (k : Nat) (xs : List Value) (wx : World) : Prop where
  below : Below w.heap.size w wx
  sz : w.heap.size + 3 ≤ wx.heap.size
  br : wx.heap[w.heap.size + 1]? = some (.cells #[.slice none 0 0, .int .i64 0] 25)
  bo : wx.heap[w.heap.size + 2]? = some (.cells #[v, .int .i64 r] 25)
  own : wx.ownsRow (w.heap.size + 3) 39 3 v' k xs
  bf : wx.heap[B]? = some fo
theorem Cp.app {o : Obj} {v' : Value} {ys zs : List Value} (h : Cp w B r v k xs fo wx) (hg : (wx.alloc o).grownBy w' v.ownBlock) (ho : w'.ownsRow (w.heap.size + 3) 39 3 v' (k + 1) ys) (hz : ys = zs) : Ca w B fo r v v' (k + 1) zs w' := by
  subst hz
  have hk := fun j hj => (h.own.lt j hj).1
  have h2 := h.next (below_alloc1 wx o)
  have hs := h2.sz
  have hg2 : ∀ j o2, (wx.alloc o).heap[j]? = some o2 → j < w.heap.size + 3 → w'.heap[j]? = some o2 := fun j o2 e hj =>
    (hg.block j (Array.getElem?_eq_some_iff.1 e).1 (fun e2 => by have := hk j e2.symm; omega)).trans e
  exact ⟨h2.below.grown hg h2.below.size (fun j hj => by have := hk j hj; omega), Nat.le_trans h2.sz hg.size, hg2 _ _ h2.br (by omega), hg2 _ _ h2.bo (by omega), ho, (hg.block B (Array.getElem?_eq_some_iff.1 h2.bf).1 (fun e2 => h.ne B e2.symm rfl)).trans h2.bf⟩
theorem Ca.put {v' : Value} (h : Ca w B fo r v v' k xs wx) : Cl w r v' k xs (wx.setCell ⟨w.heap.size + 2, 0, none⟩ v') :=
  ⟨below_cell h.below (by omega) h.below.size v', by simpa using h.sz, blk_set h.br _ _ (by simp), by rw [block_setCell (i := 0) h.bo v']; rfl, ownsRow_setCell_below h.own (by show w.heap.size + 2 < w.heap.size + 3; omega) _⟩

attribute [local go_sem ↓] app_fold
/-- a drive of its own, as a row that may grow -/
def CPost (w : World) (l : List (ByteArray × ByteArray × Int)) (r : Int) (e : Ending) (w' : World) : Prop :=
  ∃ v, e = .returned (.agg #[v, .int .i64 r]) ∧ w'.ownsRow w.heap.size 39 3 v l.length (cs l) ∧ Below w.heap.size w w'
set_option maxRecDepth 100000 in
set_option maxHeartbeats 4000000 in
theorem copy_any (a : Option Addr) (c : Nat) (l : List (ByteArray × ByteArray × Int)) (r : Int) (w : World) (hl : l.length ≤ 1048576) (hs : Small l) (hr : Rd w a (cs l)) :
    Calls Try.prog 56 #[.agg #[.slice a l.length c, .int .i64 r]] w (CPost w l r) := by
  have hC0 : Hid (Cl w r (.slice none 0 0) 0 [] (((w.alloc (.cells #[.slice a l.length c, .int .i64 r] 25)).alloc (.cells #[.slice none 0 0, .int .i64 0] 25)).alloc (.cells #[.slice none 0 0, .int .i64 r] 25))) :=
    mkHid ⟨rwStored.below3 _ _ _ _, by simp, blk_old (blk_new _ _ _ (by simp)) _, blk_new _ _ _ (by simp), World.ownsRow_nil _ _ _ _⟩
  have hR := mkHid hr
  go_enter Try.func56, Try.ntmps56
  go_wp2_with fail
  generalize ((w.alloc (.cells #[.slice a l.length c, .int .i64 r] 25)).alloc (.cells #[.slice none 0 0, .int .i64 0] 25)).alloc (.cells #[.slice none 0 0, .int .i64 r] 25) = W at *
  go_loopw [5, 12] (fun f i wr => ∃ k : Nat, k ≤ l.length ∧ i = .int .i64 k ∧ ∃ v, Hid (Cl w r v k (cs (l.take k)) wr))
    (fun _ i _ => l.length - (intOf i).toNat)
  case atStart => exact ⟨0, Nat.zero_le _, rfl, _, hC0⟩
  case round =>
    obtain ⟨k, hk, rfl, v, hC⟩ := hrel
    by_cases hlt : k < l.length
    · have hlti : (k : Int) < (l.length : Int) := by omega
      obtain ⟨⟨x0, x1, x2⟩, hx⟩ : ∃ y, l[k]? = some y := ⟨_, List.getElem?_eq_getElem hlt⟩
      obtain ⟨g1, o1, rfl, c0, c1, c2, l1⟩ := rwStored.el (hR.out.below hC.out.below) hx
      simp only at c0 c1 c2
      have HC0 := mkHid (fun wx => clone.clone_any x0 wx (hs _ (List.mem_of_getElem? hx)).1)
      have HC1 := mkHid (fun wx => clone.clone_any x1 wx (hs _ (List.mem_of_getElem? hx)).2)
      have ht : cs (l.take k ++ [(x0, x1, x2)]) = cs (l.take (k + 1)) := by rw [List.take_add_one, hx]; rfl
      have hkl : (l.take k).length = k := by rw [List.length_take]; omega
      have hsz := hC.out.sz
      go_wp2_with fail
      have S0 := mkHid (hC.out.file (.cells #[.string x0, .string x1, .int .i64 x2] 39))
      obtain ⟨f00, f01, f02⟩ := cel3 S0.out.bf
      obtain ⟨p00, p01⟩ := cel2 S0.out.bo
      generalize wr.alloc (.cells #[.string x0, .string x1, .int .i64 x2] 39) = V at *
      clear hr c0 c1 c2 hx hC l1 hs
      refine wp_region_held_drew (S := fun w' => w'.cell? ⟨wr.heap.size, 0, none⟩ = some (.string x0) ∧ w'.cell? ⟨wr.heap.size, 1, none⟩ = some (.string x1) ∧ w'.cell? ⟨wr.heap.size, 2, none⟩ = some (.int .i64 x2)) (by kernel_rfl) (by exact ⟨f00, f01, f02⟩) (fun hHeld => ?_)
      refine wpAnyH_take (i := 0) (oi := Oper.mk _ _ _ _ _ _) (v := ?_) rfl (by kernel_rfl) (by kernel_rfl) (by kernel_rfl) (fun _ _ _ h => h) (Or.inl ⟨by rfl, ?_⟩) (by assumption) ?_
      rotate_left
      · intro w hSw
        try dsimp only at hSw
        go_simp
        all_goals with_reducible rfl
      try simp only [Act.put, List.setIfInBounds_toArray, List.set_cons_zero, List.set_cons_succ]
      refine wpAnyH_take (i := 2) (oi := Oper.mk _ _ _ _ _ _) (v := ?_) rfl (by kernel_rfl) (by kernel_rfl) (by kernel_rfl) (fun _ _ _ h => h) (Or.inl ⟨by rfl, ?_⟩) (by assumption) ?_
      rotate_left
      · intro w hSw
        try dsimp only at hSw
        go_simp
        all_goals with_reducible rfl
      try simp only [Act.put, List.setIfInBounds_toArray, List.set_cons_zero, List.set_cons_succ]
      refine wpAnyH_take (i := 3) (oi := Oper.mk _ _ _ _ _ _) (v := ?_) rfl (by kernel_rfl) (by kernel_rfl) (by kernel_rfl) (fun _ _ _ h => h) (Or.inl ⟨by rfl, ?_⟩) (by assumption) ?_
      rotate_left
      · intro w hSw
        try dsimp only at hSw
        go_simp
        all_goals with_reducible rfl
      try simp only [Act.put, List.setIfInBounds_toArray, List.set_cons_zero, List.set_cons_succ]
      refine wpAnyH_take (i := 5) (oi := Oper.mk _ _ _ _ _ _) (v := ?_) rfl (by kernel_rfl) (by kernel_rfl) (by kernel_rfl) (fun _ _ _ h => h) (Or.inl ⟨by rfl, ?_⟩) (by assumption) ?_
      rotate_left
      · intro w hSw
        try dsimp only at hSw
        go_simp
        all_goals with_reducible rfl
      try simp only [Act.put, List.setIfInBounds_toArray, List.set_cons_zero, List.set_cons_succ]
      refine wpAnyH_take (i := 6) (oi := Oper.mk _ _ _ _ _ _) (v := ?_) rfl (by kernel_rfl) (by kernel_rfl) (by kernel_rfl) (fun _ _ _ h => h) (Or.inl ⟨by rfl, ?_⟩) (by assumption) ?_
      rotate_left
      · intro w hSw
        try dsimp only at hSw
        go_simp
        all_goals with_reducible rfl
      try simp only [Act.put, List.setIfInBounds_toArray, List.set_cons_zero, List.set_cons_succ]
      refine wpAnyH_take (i := 8) (oi := Oper.mk _ _ _ _ _ _) (v := ?_) rfl (by kernel_rfl) (by kernel_rfl) (by kernel_rfl) (fun _ _ _ h => h) (Or.inl ⟨by rfl, ?_⟩) (by assumption) ?_
      rotate_left
      · intro w hSw
        try dsimp only at hSw
        go_simp
        all_goals with_reducible rfl
      try simp only [Act.put, List.setIfInBounds_toArray, List.set_cons_zero, List.set_cons_succ]
      refine wpAnyH_take (i := 9) (oi := Oper.mk _ _ _ _ _ _) (v := ?_) rfl (by kernel_rfl) (by kernel_rfl) (by kernel_rfl) (fun _ _ _ h => h) (Or.inl ⟨by rfl, ?_⟩) (by assumption) ?_
      rotate_left
      · intro w hSw
        try dsimp only at hSw
        go_simp
        all_goals with_reducible rfl
      try simp only [Act.put, List.setIfInBounds_toArray, List.set_cons_zero, List.set_cons_succ]
      refine wpAnyH_ready (rs := [1, 4]) (by kernel_rfl) (by simp) ?_
      refine AllReadyH.cons (o := Oper.mk _ _ _ _ _ _) rfl (fun K hK => ?_) ?_
      · skip
        go_simp
        refine hK.out _ _ (by assumption) (fun hHeld => ?_)
        clear hK K
        try simp only [Act.put, List.setIfInBounds_toArray, List.set_cons_zero, List.set_cons_succ]
        refine wpAnyH_ready (rs := [4]) (by kernel_rfl) (by simp) ?_
        refine AllReadyH.cons (o := Oper.mk _ _ _ _ _ _) rfl (fun K hK => ?_) AllReadyH.nil
        go_simp
        refine Calls.mono (HC0.out _) ?_
        rintro e w1 ⟨rfl, hb1⟩
        have S1 := mkHid (S0.out.next (re hb1 rfl rfl rfl rfl))
        obtain ⟨f10, f11, f12⟩ := cel3 S1.out.bf
        obtain ⟨p10, p11⟩ := cel2 S1.out.bo
        clear hb1
        show K _ _
        refine hK.out _ _ ⟨f10, f11, f12⟩ (fun hHeld => ?_)
        clear hK K
        try simp only [Act.put, List.setIfInBounds_toArray, List.set_cons_zero, List.set_cons_succ]
        refine wpAnyH_ready (rs := [7]) (by kernel_rfl) (by simp) ?_
        refine AllReadyH.cons (o := Oper.mk _ _ _ _ _ _) rfl (fun K hK => ?_) AllReadyH.nil
        go_simp
        refine Calls.mono (HC1.out _) ?_
        rintro e w2 ⟨rfl, hb2⟩
        have S2 := mkHid (S1.out.next (re hb2 rfl rfl rfl rfl))
        obtain ⟨f20, f21, f22⟩ := cel3 S2.out.bf
        obtain ⟨p20, p21⟩ := cel2 S2.out.bo
        clear hb2
        obtain ⟨g3, c3, w3, happ, hown3, hgr3⟩ := rwStored.app w2 (w.heap.size + 3) v k (l.take k) x0 x1 x2 (by rw [List.length_take]; omega) S2.out.own S2.out.sz (by omega)
        have S3 := mkHid (S2.out.app hgr3 hown3 ht)
        obtain ⟨q0, q1⟩ := cel2 S3.out.bo
        obtain ⟨f30, f31, f32⟩ := cel3 S3.out.bf
        have qf : ∀ j, w3.frozen? ⟨w.heap.size + 2, j, none⟩ = false := unfrozen S3.out.bo
        have S4 := mkHid S3.out.put
        obtain ⟨pa0, pa1⟩ := cel2 (blk_old S2.out.bo (.cells #[.string x0, .string x1, .int .i64 x2] 39))
        obtain ⟨f40, f41, f42⟩ := cel3 (blk_set S3.out.bf ⟨w.heap.size + 2, 0, none⟩ (.slice (some ⟨g3, 0, none⟩) (k + 1) c3) (by show wr.heap.size ≠ w.heap.size + 2; omega))
        clear hown3 hgr3
        show K _ _
        refine hK.out _ _ ⟨f20, f21, f22⟩ (fun hHeld => ?_)
        clear hK K
        try simp only [Act.put, List.setIfInBounds_toArray, List.set_cons_zero, List.set_cons_succ]
        refine wpAnyH_take (i := 10) (oi := Oper.mk _ _ _ _ _ _) (v := ?_) rfl (by kernel_rfl) (by kernel_rfl) (by kernel_rfl) (fun _ _ _ h => h) (Or.inl ⟨by rfl, ?_⟩) (by assumption) ?_
        rotate_left
        · intro w hSw
          try dsimp only at hSw
          go_simp
          all_goals with_reducible rfl
        try simp only [Act.put, List.setIfInBounds_toArray, List.set_cons_zero, List.set_cons_succ]
        refine wpAnyH_ready (rs := [11]) (by kernel_rfl) (by simp) ?_
        refine AllReadyH.cons (o := Oper.mk _ _ _ _ _ _) rfl (fun K hK => ?_) AllReadyH.nil
        go_simp
        refine hK.out _ _ (by go_keep) (fun hHeld => ?_)
        clear hK K
        try simp only [Act.put, List.setIfInBounds_toArray, List.set_cons_zero, List.set_cons_succ]
        refine wpAnyH_ready (rs := [12]) (by kernel_rfl) (by simp) ?_
        refine AllReadyH.cons (o := Oper.mk _ _ _ _ _ _) rfl (fun K hK => ?_) AllReadyH.nil
        go_simp
        refine hK.out _ _ ⟨f30, f31, f32⟩ (fun hHeld => ?_)
        clear hK K
        try simp only [Act.put, List.setIfInBounds_toArray, List.set_cons_zero, List.set_cons_succ]
        refine wpAnyH_take (i := 13) (oi := Oper.mk _ _ _ _ _ _) (v := ?_) rfl (by kernel_rfl) (by kernel_rfl) (by kernel_rfl) (fun _ _ _ h => h) (Or.inl ⟨by rfl, ?_⟩) (by assumption) ?_
        rotate_left
        · intro w hSw
          try dsimp only at hSw
          go_simp
          all_goals with_reducible rfl
        try simp only [Act.put, List.setIfInBounds_toArray, List.set_cons_zero, List.set_cons_succ]
        refine wpAnyH_ready (rs := [14]) (by kernel_rfl) (by simp) ?_
        refine AllReadyH.cons (o := Oper.mk _ _ _ _ _ _) rfl (fun K hK => ?_) AllReadyH.nil
        go_simp
        refine hK.out _ _ ⟨f40, f41, f42⟩ (fun hHeld => ?_)
        clear hK K
        try simp only [Act.put, List.setIfInBounds_toArray, List.set_cons_zero, List.set_cons_succ]
        refine wpAnyH_done (by kernel_rfl) ?_ _
        go_wp2
        go_roundw
        case rel => exact ⟨k + 1, by omega, by go_num, _, S4⟩
        case measure => simp [intOf]; omega
      refine AllReadyH.cons (o := Oper.mk _ _ _ _ _ _) rfl (fun K hK => ?_) AllReadyH.nil
      go_simp
      refine Calls.mono (HC0.out _) ?_
      rintro e w1 ⟨rfl, hb1⟩
      have S1 := mkHid (S0.out.next (re hb1 rfl rfl rfl rfl))
      obtain ⟨f10, f11, f12⟩ := cel3 S1.out.bf
      obtain ⟨p10, p11⟩ := cel2 S1.out.bo
      clear hb1
      show K _ _
      refine hK.out _ _ ⟨f10, f11, f12⟩ (fun hHeld => ?_)
      clear hK K
      try simp only [Act.put, List.setIfInBounds_toArray, List.set_cons_zero, List.set_cons_succ]
      refine wpAnyH_ready (rs := [1, 7]) (by kernel_rfl) (by simp) ?_
      refine AllReadyH.cons (o := Oper.mk _ _ _ _ _ _) rfl (fun K hK => ?_) ?_
      · skip
        go_simp
        refine hK.out _ _ (by assumption) (fun hHeld => ?_)
        clear hK K
        try simp only [Act.put, List.setIfInBounds_toArray, List.set_cons_zero, List.set_cons_succ]
        refine wpAnyH_ready (rs := [7]) (by kernel_rfl) (by simp) ?_
        refine AllReadyH.cons (o := Oper.mk _ _ _ _ _ _) rfl (fun K hK => ?_) AllReadyH.nil
        go_simp
        refine Calls.mono (HC1.out _) ?_
        rintro e w2 ⟨rfl, hb2⟩
        have S2 := mkHid (S1.out.next (re hb2 rfl rfl rfl rfl))
        obtain ⟨f20, f21, f22⟩ := cel3 S2.out.bf
        obtain ⟨p20, p21⟩ := cel2 S2.out.bo
        clear hb2
        obtain ⟨g3, c3, w3, happ, hown3, hgr3⟩ := rwStored.app w2 (w.heap.size + 3) v k (l.take k) x0 x1 x2 (by rw [List.length_take]; omega) S2.out.own S2.out.sz (by omega)
        have S3 := mkHid (S2.out.app hgr3 hown3 ht)
        obtain ⟨q0, q1⟩ := cel2 S3.out.bo
        obtain ⟨f30, f31, f32⟩ := cel3 S3.out.bf
        have qf : ∀ j, w3.frozen? ⟨w.heap.size + 2, j, none⟩ = false := unfrozen S3.out.bo
        have S4 := mkHid S3.out.put
        obtain ⟨pa0, pa1⟩ := cel2 (blk_old S2.out.bo (.cells #[.string x0, .string x1, .int .i64 x2] 39))
        obtain ⟨f40, f41, f42⟩ := cel3 (blk_set S3.out.bf ⟨w.heap.size + 2, 0, none⟩ (.slice (some ⟨g3, 0, none⟩) (k + 1) c3) (by show wr.heap.size ≠ w.heap.size + 2; omega))
        clear hown3 hgr3
        show K _ _
        refine hK.out _ _ ⟨f20, f21, f22⟩ (fun hHeld => ?_)
        clear hK K
        try simp only [Act.put, List.setIfInBounds_toArray, List.set_cons_zero, List.set_cons_succ]
        refine wpAnyH_take (i := 10) (oi := Oper.mk _ _ _ _ _ _) (v := ?_) rfl (by kernel_rfl) (by kernel_rfl) (by kernel_rfl) (fun _ _ _ h => h) (Or.inl ⟨by rfl, ?_⟩) (by assumption) ?_
        rotate_left
        · intro w hSw
          try dsimp only at hSw
          go_simp
          all_goals with_reducible rfl
        try simp only [Act.put, List.setIfInBounds_toArray, List.set_cons_zero, List.set_cons_succ]
        refine wpAnyH_ready (rs := [11]) (by kernel_rfl) (by simp) ?_
        refine AllReadyH.cons (o := Oper.mk _ _ _ _ _ _) rfl (fun K hK => ?_) AllReadyH.nil
        go_simp
        refine hK.out _ _ (by go_keep) (fun hHeld => ?_)
        clear hK K
        try simp only [Act.put, List.setIfInBounds_toArray, List.set_cons_zero, List.set_cons_succ]
        refine wpAnyH_ready (rs := [12]) (by kernel_rfl) (by simp) ?_
        refine AllReadyH.cons (o := Oper.mk _ _ _ _ _ _) rfl (fun K hK => ?_) AllReadyH.nil
        go_simp
        refine hK.out _ _ ⟨f30, f31, f32⟩ (fun hHeld => ?_)
        clear hK K
        try simp only [Act.put, List.setIfInBounds_toArray, List.set_cons_zero, List.set_cons_succ]
        refine wpAnyH_take (i := 13) (oi := Oper.mk _ _ _ _ _ _) (v := ?_) rfl (by kernel_rfl) (by kernel_rfl) (by kernel_rfl) (fun _ _ _ h => h) (Or.inl ⟨by rfl, ?_⟩) (by assumption) ?_
        rotate_left
        · intro w hSw
          try dsimp only at hSw
          go_simp
          all_goals with_reducible rfl
        try simp only [Act.put, List.setIfInBounds_toArray, List.set_cons_zero, List.set_cons_succ]
        refine wpAnyH_ready (rs := [14]) (by kernel_rfl) (by simp) ?_
        refine AllReadyH.cons (o := Oper.mk _ _ _ _ _ _) rfl (fun K hK => ?_) AllReadyH.nil
        go_simp
        refine hK.out _ _ ⟨f40, f41, f42⟩ (fun hHeld => ?_)
        clear hK K
        try simp only [Act.put, List.setIfInBounds_toArray, List.set_cons_zero, List.set_cons_succ]
        refine wpAnyH_done (by kernel_rfl) ?_ _
        go_wp2
        go_roundw
        case rel => exact ⟨k + 1, by omega, by go_num, _, S4⟩
        case measure => simp [intOf]; omega
      refine AllReadyH.cons (o := Oper.mk _ _ _ _ _ _) rfl (fun K hK => ?_) AllReadyH.nil
      go_simp
      refine Calls.mono (HC1.out _) ?_
      rintro e w2 ⟨rfl, hb2⟩
      have S2 := mkHid (S1.out.next (re hb2 rfl rfl rfl rfl))
      obtain ⟨f20, f21, f22⟩ := cel3 S2.out.bf
      obtain ⟨p20, p21⟩ := cel2 S2.out.bo
      clear hb2
      obtain ⟨g3, c3, w3, happ, hown3, hgr3⟩ := rwStored.app w2 (w.heap.size + 3) v k (l.take k) x0 x1 x2 (by rw [List.length_take]; omega) S2.out.own S2.out.sz (by omega)
      have S3 := mkHid (S2.out.app hgr3 hown3 ht)
      obtain ⟨q0, q1⟩ := cel2 S3.out.bo
      obtain ⟨f30, f31, f32⟩ := cel3 S3.out.bf
      have qf : ∀ j, w3.frozen? ⟨w.heap.size + 2, j, none⟩ = false := unfrozen S3.out.bo
      have S4 := mkHid S3.out.put
      obtain ⟨pa0, pa1⟩ := cel2 (blk_old S2.out.bo (.cells #[.string x0, .string x1, .int .i64 x2] 39))
      obtain ⟨f40, f41, f42⟩ := cel3 (blk_set S3.out.bf ⟨w.heap.size + 2, 0, none⟩ (.slice (some ⟨g3, 0, none⟩) (k + 1) c3) (by show wr.heap.size ≠ w.heap.size + 2; omega))
      clear hown3 hgr3
      show K _ _
      refine hK.out _ _ ⟨f20, f21, f22⟩ (fun hHeld => ?_)
      clear hK K
      try simp only [Act.put, List.setIfInBounds_toArray, List.set_cons_zero, List.set_cons_succ]
      refine wpAnyH_take (i := 10) (oi := Oper.mk _ _ _ _ _ _) (v := ?_) rfl (by kernel_rfl) (by kernel_rfl) (by kernel_rfl) (fun _ _ _ h => h) (Or.inl ⟨by rfl, ?_⟩) (by assumption) ?_
      rotate_left
      · intro w hSw
        try dsimp only at hSw
        go_simp
        all_goals with_reducible rfl
      try simp only [Act.put, List.setIfInBounds_toArray, List.set_cons_zero, List.set_cons_succ]
      refine wpAnyH_ready (rs := [1, 11]) (by kernel_rfl) (by simp) ?_
      refine AllReadyH.cons (o := Oper.mk _ _ _ _ _ _) rfl (fun K hK => ?_) ?_
      · skip
        go_simp
        refine hK.out _ _ (by assumption) (fun hHeld => ?_)
        clear hK K
        try simp only [Act.put, List.setIfInBounds_toArray, List.set_cons_zero, List.set_cons_succ]
        refine wpAnyH_ready (rs := [11]) (by kernel_rfl) (by simp) ?_
        refine AllReadyH.cons (o := Oper.mk _ _ _ _ _ _) rfl (fun K hK => ?_) AllReadyH.nil
        go_simp
        refine hK.out _ _ (by go_keep) (fun hHeld => ?_)
        clear hK K
        try simp only [Act.put, List.setIfInBounds_toArray, List.set_cons_zero, List.set_cons_succ]
        refine wpAnyH_ready (rs := [12]) (by kernel_rfl) (by simp) ?_
        refine AllReadyH.cons (o := Oper.mk _ _ _ _ _ _) rfl (fun K hK => ?_) AllReadyH.nil
        go_simp
        refine hK.out _ _ ⟨f30, f31, f32⟩ (fun hHeld => ?_)
        clear hK K
        try simp only [Act.put, List.setIfInBounds_toArray, List.set_cons_zero, List.set_cons_succ]
        refine wpAnyH_take (i := 13) (oi := Oper.mk _ _ _ _ _ _) (v := ?_) rfl (by kernel_rfl) (by kernel_rfl) (by kernel_rfl) (fun _ _ _ h => h) (Or.inl ⟨by rfl, ?_⟩) (by assumption) ?_
        rotate_left
        · intro w hSw
          try dsimp only at hSw
          go_simp
          all_goals with_reducible rfl
        try simp only [Act.put, List.setIfInBounds_toArray, List.set_cons_zero, List.set_cons_succ]
        refine wpAnyH_ready (rs := [14]) (by kernel_rfl) (by simp) ?_
        refine AllReadyH.cons (o := Oper.mk _ _ _ _ _ _) rfl (fun K hK => ?_) AllReadyH.nil
        go_simp
        refine hK.out _ _ ⟨f40, f41, f42⟩ (fun hHeld => ?_)
        clear hK K
        try simp only [Act.put, List.setIfInBounds_toArray, List.set_cons_zero, List.set_cons_succ]
        refine wpAnyH_done (by kernel_rfl) ?_ _
        go_wp2
        go_roundw
        case rel => exact ⟨k + 1, by omega, by go_num, _, S4⟩
        case measure => simp [intOf]; omega
      refine AllReadyH.cons (o := Oper.mk _ _ _ _ _ _) rfl (fun K hK => ?_) AllReadyH.nil
      go_simp
      refine hK.out _ _ (by go_keep) (fun hHeld => ?_)
      clear hK K
      try simp only [Act.put, List.setIfInBounds_toArray, List.set_cons_zero, List.set_cons_succ]
      refine wpAnyH_ready (rs := [1]) (by kernel_rfl) (by simp) ?_
      refine AllReadyH.cons (o := Oper.mk _ _ _ _ _ _) rfl (fun K hK => ?_) AllReadyH.nil
      go_simp
      refine hK.out _ _ (by assumption) (fun hHeld => ?_)
      clear hK K
      try simp only [Act.put, List.setIfInBounds_toArray, List.set_cons_zero, List.set_cons_succ]
      refine wpAnyH_ready (rs := [12]) (by kernel_rfl) (by simp) ?_
      refine AllReadyH.cons (o := Oper.mk _ _ _ _ _ _) rfl (fun K hK => ?_) AllReadyH.nil
      go_simp
      refine hK.out _ _ ⟨f30, f31, f32⟩ (fun hHeld => ?_)
      clear hK K
      try simp only [Act.put, List.setIfInBounds_toArray, List.set_cons_zero, List.set_cons_succ]
      refine wpAnyH_take (i := 13) (oi := Oper.mk _ _ _ _ _ _) (v := ?_) rfl (by kernel_rfl) (by kernel_rfl) (by kernel_rfl) (fun _ _ _ h => h) (Or.inl ⟨by rfl, ?_⟩) (by assumption) ?_
      rotate_left
      · intro w hSw
        try dsimp only at hSw
        go_simp
        all_goals with_reducible rfl
      try simp only [Act.put, List.setIfInBounds_toArray, List.set_cons_zero, List.set_cons_succ]
      refine wpAnyH_ready (rs := [14]) (by kernel_rfl) (by simp) ?_
      refine AllReadyH.cons (o := Oper.mk _ _ _ _ _ _) rfl (fun K hK => ?_) AllReadyH.nil
      go_simp
      refine hK.out _ _ ⟨f40, f41, f42⟩ (fun hHeld => ?_)
      clear hK K
      try simp only [Act.put, List.setIfInBounds_toArray, List.set_cons_zero, List.set_cons_succ]
      refine wpAnyH_done (by kernel_rfl) ?_ _
      go_wp2
      go_roundw
      case rel => exact ⟨k + 1, by omega, by go_num, _, S4⟩
      case measure => simp [intOf]; omega
    · obtain rfl : k = l.length := by omega
      have E := hC
      rw [List.take_of_length_le (Nat.le_refl _)] at E
      obtain ⟨d0, d1⟩ := cel2 E.out.bo
      obtain ⟨e0, e1⟩ := cel2 E.out.br
      have ef : ∀ j, wr.frozen? ⟨w.heap.size + 1, j, none⟩ = false := unfrozen E.out.br
      have HB := mkHid (below_cell (i := 1) (below_cell (i := 0) E.out.below (g := w.heap.size + 1) (by omega) E.out.below.size v) (g := w.heap.size + 1) (by omega) (by simpa using E.out.below.size) (.int .i64 r))
      have HO := mkHid (ownsRow_le (ownsRow_setCell_below (ownsRow_setCell_below E.out.own (a := ⟨w.heap.size + 1, 0, none⟩) (by show w.heap.size + 1 < _; omega) v) (a := ⟨w.heap.size + 1, 1, none⟩) (by show w.heap.size + 1 < _; omega) (.int .i64 r)) (show w.heap.size ≤ w.heap.size + 3 by omega))
      have FO := mkHid (ownsRow_forms E.out.own)
      clear hr hC hs
      rcases FO.out with ⟨rfl, h0⟩ | ⟨g, cap, rfl⟩
      · go_wp2
        refine bodyPost_ret (v := .agg #[.slice none 0 0, .int .i64 r]) ?_ rfl ?_
        rotate_left
        · exact ⟨_, rfl, HO.out, HB.out⟩
        · simp [results, Try.results56, go_sem, e0, e1]
      · go_wp2
        refine bodyPost_ret (v := .agg #[.slice (some ⟨g, 0, none⟩) l.length cap, .int .i64 r]) ?_ rfl ?_
        rotate_left
        · exact ⟨_, rfl, HO.out, HB.out⟩
        · simp [results, Try.results56, go_sem, e0, e1]
end Go.Proofs.Ytfckgpmphcadeaa.drv
