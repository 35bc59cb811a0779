/-
  laws.FnExactDriveDo answers true at every drive and op, and leaves what was there as it was. No condition.
-/
import Derived.Test.YtfckgpmphcadeaaDrvDi
import Derived.Deep.DeepCutAuto
namespace Go.Proofs.Ytfckgpmphcadeaa.drv
open Go.RowKit Go.Joins Go.Sort
open Go.Proofs.Ytfckgpmphcadeaa.base Go.Proofs.Ytfckgpmphcadeaa.blk Go.Proofs.Ytfckgpmphcadeaa.aid
open Go.Proofs.Ytfckgpmphcadeaa.row (Rd Own OwnV)
open Go.Proofs.Ytfckgpmphcadeaa.rwStored (cs szF me)
set_option linter.unusedVariables false

theorem szL_le : ∀ (l : List File) (m : Int), 0 ≤ m → rwStored.szL l m ≤ m
  | [], m, h => by simp only [rwStored.szL]; omega
  | b :: r, m, h => by
    unfold rwStored.szL
    have := rwStored.tot_pos b
    split
    · omega
    · rename_i hb
      have := szL_le r (m - rwStored.tot b) (by omega)
      omega
theorem szF_le (l : List File) : szF l 1048576 ≤ 1048576 := by
  unfold szF
  split
  · omega
  · rename_i hb
    have := szL_le l (1048576 - l.length) (by omega)
    omega
theorem do_len (l : List File) (r k : Int) (n t x : ByteArray) : (doT l r k n t x).1.length ≤ 1048576 := by
  unfold doT
  split
  · rename_i h
    rw [Bool.and_eq_true] at h
    have hl := (driveB_parts h.1).1
    unfold doR
    simp only
    split
    · split
      · simp
      · split
        · simp
        · have := (put_bd l (n, x, 0)).1
          simp only at this ⊢
          omega
    · split
      · simp
      · split
        · simp
        · split
          · simp only [List.length_set]; omega
          · split
            · split
              · simp only; omega
              · rename_i f hf _ _ _
                have h1 := (put_bd (out l (find l n).toNat) (t, f.2.1, f.2.2)).1
                have h2 : (out l (find l n).toNat).length ≤ l.length := by unfold out; simp; omega
                simp only at h1 ⊢
                omega
            · have h2 : (out l (find l n).toNat).length ≤ l.length := by unfold out; simp; omega
              simp only
              omega
  · simp
set_option maxRecDepth 100000 in
set_option maxHeartbeats 8000000 in
theorem do_walk (a : Option Addr) (c : Nat) (l : List File) (r : Int) (q : Int) (n t x : ByteArray) (w : World) (hl : (l.length : Int) ≤ 9223372036854775807) (hs : ∀ b ∈ l, (b.1.size : Int) ≤ 9223372036854775807 ∧ (b.2.1.size : Int) ≤ 9223372036854775807) (hr : Rd w a (cs l)) (h1 : (n.size : Int) ≤ 9223372036854775807) (h2 : (t.size : Int) ≤ 9223372036854775807) (h3 : (x.size : Int) ≤ 9223372036854775807) :
    Calls Try.prog 4 #[.agg #[.slice a l.length c, .int .i64 r], .agg #[.int .i64 q, .string n, .string t, .string x]] w fun e w' => e = .returned (.bool true) ∧ Below w.heap.size w w' := by
  have S0 := mkHid (((mem.startR hr).var (.cells #[.slice a l.length c, .int .i64 r] 46)).var (.cells #[.int .i64 q, .string n, .string t, .string x] 47))
  have hz1 : (w.alloc (.cells #[.slice a l.length c, .int .i64 r] 46)).heap.size = w.heap.size + 1 := by simp
  rw [hz1] at S0
  have HZ := mkHid (sz_any a c l r _ hl hs S0.out.r0)
  have HZ2 := mkHid (fun z wx (hz0 : 0 ≤ z) (hz1 : z ≤ 1048576) => szOp_any q n t x z wx h1 h2 h3 hz0 hz1)
  have hzle := szF_le l
  by_cases hz : szF l 1048576 < 0
  · generalize szF l 1048576 = z at *
    clear hr hs hz1
    go_enter Try.func4, Try.ntmps4
    go_wp2_with fail
    refine HZ.out.mono ?_
    rintro e w1 ⟨rfl, hb1⟩
    have S1 := mkHid (S0.out.next hb1)
    clear hb1
    go_wp2
    go_ret
    exact ⟨rfl, S1.out.below⟩
  have hz0 : 0 ≤ szF l 1048576 := by omega
  have hl1 := rwStored.szF_len hz0
  have hs1 : Small l := rwStored.szF_small hz0
  generalize szF l 1048576 = z at *
  have HT := mkHid (fun wx (hx : Rd wx a (cs l)) => to_any a c l r wx hl1 hx)
  unfold DPost at HT
  have HTO := mkHid (fun wx => toOp_any q n t x wx)
  have HEX := mkHid (fun wx a1 c1 a2 c2 (h1 : Rd wx a1 (cs l)) (h2 : Rd wx a2 (cs l)) => eq_same a1 a2 c1 c2 l r wx hl1 h1 h2)
  have HS0 := mkHid (fun (hq : n.size ≤ 1048576 ∧ t.size ≤ 1048576 ∧ x.size ≤ 1048576) wx a' c' (hc : l.length ≤ c') (hx : Rd wx a' (cs l)) => driveDoS_any a' c' l r q n t x wx hl1 hs1 hc hq.1 hq.2.1 hq.2.2 hx)
  have HI0 := mkHid (fun (hq : n.size ≤ 1048576 ∧ t.size ≤ 1048576 ∧ x.size ≤ 1048576) wx a' c' (hx : Rd wx a' (cs l)) => driveDoI_any a' c' l r q n t x wx hl1 hs1 hq.1 hq.2.1 hq.2.2 hx)
  unfold OPost at HS0 HI0
  have hll := do_len l r q n t x
  generalize doT l r q n t x = o at *
  obtain ⟨l2, r2, q2⟩ := o
  simp only at HS0 HI0 hll
  have HE := mkHid (fun wx a1 c1 a2 c2 (h1 : Rd wx a1 (cs l2)) (h2 : Rd wx a2 (cs l2)) => eqOut_same a1 a2 c1 c2 l2 r2 q2 wx hll h1 h2)
  have HMX := mkHid (fun wx a1 c1 (h : OwnV 39 wx a1 (cs l)) => mark_any a1 c1 l r wx hl1 h)
  have HMG := mkHid (fun wx a1 c1 (h : OwnV 39 wx a1 (cs l2)) => markOut_any a1 c1 l2 r2 q2 wx hll h)
  have HHG := mkHid (fun wx a1 c1 (h : Rd wx a1 (cs (me 1 l2.length))) => heldOut_any a1 c1 l2.length r2 q2 wx hll h)
  have QX : Hid (cs (me 1 l.length) ≠ [] → cs l ≠ []) := mkHid (me_ne rfl)
  have QG : Hid (cs (me 1 l2.length) ≠ [] → cs l2 ≠ []) := mkHid (me_ne rfl)
  have hli : (l.length : Int) ≤ 1048576 := by omega
  have hti : (l2.length : Int) ≤ 1048576 := by omega
  have hk7 : 0 ≤ 1 + 3 * (l.length : Int) := by omega
  have hk8 : 0 ≤ 1 + 3 * (l2.length : Int) := by omega
  have hk9 : (1 + 3 * (l2.length : Int) != 1 + 3 * (l2.length : Int)) = false := by simp
  have HO := mkHid hr
  clear hr hs hl hs1 hz hl1 hll h1 h2 h3 hz1
  go_enter Try.func4, Try.ntmps4
  go_wp2_with fail
  refine (HZ.out).mono ?_
  rintro e w1 ⟨rfl, hb1⟩
  have S1 := mkHid (S0.out.next hb1)
  clear hb1 S0 HZ
  obtain ⟨k1aO0, k1aO1, k1aO2, k1aO3⟩ := cel4 S1.out.b0
  go_wp2_with fail
  refine (HZ2.out _ _ hz0 hzle).mono ?_
  rintro e w2 ⟨⟨z2, rfl, hz2⟩, hb2⟩
  have S2 := mkHid (S1.out.next hb2)
  clear k1aO0 k1aO1 k1aO2 k1aO3
  clear hb2 S1 HZ2
  by_cases hz3 : z2 < 0
  · clear hz2
    go_wp2
    go_ret
    exact ⟨rfl, S2.out.below⟩
  have hz4 : 0 ≤ z2 := by omega
  have HS := mkHid (HS0.out (hz2 hz4))
  have HI := mkHid (HI0.out (hz2 hz4))
  clear hz2 hz3 HS0 HI0
  go_wp2_with fail
  go_cut [6] (fun s wx => ∃ P a' c', s = .pointer (some ⟨P, 0, none⟩) ∧ Hid (mem.Mem w [(P, .cells #[.slice a' l2.length c', .int .i64 r2, .int .i64 q2] 31), (w.heap.size + 1, .cells #[.int .i64 q, .string n, .string t, .string x] 47), (w.heap.size, .cells #[.slice a l.length c, .int .i64 r] 46)] [(a', cs l2), (a, cs l)] [] wx))
  case first =>
    have SR := S2
    obtain ⟨f0, f1, f2, f3⟩ := cel4 SR.out.b0
    obtain ⟨d0, d1⟩ := cel2 SR.out.b1
    refine wp_region_held_drew (S := fun w' => w'.cell? ⟨w.heap.size + 1, 0, none⟩ = some (.int .i64 q) ∧ w'.cell? ⟨w.heap.size + 1, 1, none⟩ = some (.string n) ∧ w'.cell? ⟨w.heap.size + 1, 2, none⟩ = some (.string t) ∧ w'.cell? ⟨w.heap.size + 1, 3, none⟩ = some (.string x) ∧ w'.cell? ⟨w.heap.size, 0, none⟩ = some (.slice a l.length c) ∧ w'.cell? ⟨w.heap.size, 1, none⟩ = some (.int .i64 r)) (by kernel_rfl) (by exact ⟨f0, f1, f2, f3, d0, d1⟩) (fun hHeld => ?_)
    refine wpAnyH_take (i := 0) (oi := Oper.mk _ _ _ _ _ _) (v := ?_) rfl (by kernel_rfl) (by kernel_rfl) (by kernel_rfl) (fun _ _ _ h => h) (Or.inl ⟨by rfl, ?_⟩) (by assumption) ?_
    rotate_left
    · intro w hSw
      try dsimp only at hSw
      go_simp
      all_goals with_reducible rfl
    try simp only [Act.put, List.setIfInBounds_toArray, List.set_cons_zero, List.set_cons_succ]
    refine wpAnyH_take (i := 2) (oi := Oper.mk _ _ _ _ _ _) (v := ?_) rfl (by kernel_rfl) (by kernel_rfl) (by kernel_rfl) (fun _ _ _ h => h) (Or.inl ⟨by rfl, ?_⟩) (by assumption) ?_
    rotate_left
    · intro w hSw
      try dsimp only at hSw
      go_simp
      all_goals with_reducible rfl
    try simp only [Act.put, List.setIfInBounds_toArray, List.set_cons_zero, List.set_cons_succ]
    refine wpAnyH_ready (rs := [1, 5]) (by kernel_rfl) (by simp) ?_
    refine AllReadyH.cons (o := Oper.mk _ _ _ _ _ _) rfl (fun K hK => ?_) ?_
    · skip
      go_simp
      refine Calls.mono (HT.out _ (by exact SR.out.r0)) ?_
      rintro e u0 ⟨at1, ct1, rfl, ho, hf, hb, hct⟩
      have SR := mkHid (SR.out.own (re hb rfl rfl rfl rfl) ho hf)
      obtain ⟨f0, f1, f2, f3⟩ := cel4 SR.out.b0
      obtain ⟨d0, d1⟩ := cel2 SR.out.b1
      clear hb
      show K _ _
      refine hK.out _ _ ⟨f0, f1, f2, f3, d0, d1⟩ (fun hHeld => ?_)
      clear hK K
      try simp only [Act.put, List.setIfInBounds_toArray, List.set_cons_zero, List.set_cons_succ]
      refine wpAnyH_ready (rs := [3, 5]) (by kernel_rfl) (by simp) ?_
      refine AllReadyH.cons (o := Oper.mk _ _ _ _ _ _) rfl (fun K hK => ?_) ?_
      · skip
        go_simp
        refine Calls.mono (HTO.out _) ?_
        rintro e u1 ⟨rfl, hb⟩
        have SR := mkHid (SR.out.next (re hb rfl rfl rfl rfl))
        obtain ⟨f0, f1, f2, f3⟩ := cel4 SR.out.b0
        obtain ⟨d0, d1⟩ := cel2 SR.out.b1
        clear hb
        show K _ _
        refine hK.out _ _ ⟨f0, f1, f2, f3, d0, d1⟩ (fun hHeld => ?_)
        clear hK K
        try simp only [Act.put, List.setIfInBounds_toArray, List.set_cons_zero, List.set_cons_succ]
        refine wpAnyH_ready (rs := [4, 5]) (by kernel_rfl) (by simp) ?_
        refine AllReadyH.cons (o := Oper.mk _ _ _ _ _ _) rfl (fun K hK => ?_) ?_
        · skip
          go_simp
          refine Calls.mono (HS.out _ _ _ hct (by exact SR.out.o0.rd)) ?_
          rintro e u2 ⟨av, cv, rfl, ho, hf, hb, _⟩
          have SR := mkHid (SR.out.own (re hb rfl rfl rfl rfl) ho hf)
          obtain ⟨f0, f1, f2, f3⟩ := cel4 SR.out.b0
          obtain ⟨d0, d1⟩ := cel2 SR.out.b1
          clear hb
          show K _ _
          refine hK.out _ _ ⟨f0, f1, f2, f3, d0, d1⟩ (fun hHeld => ?_)
          clear hK K
          try simp only [Act.put, List.setIfInBounds_toArray, List.set_cons_zero, List.set_cons_succ]
          refine wpAnyH_ready (rs := [5]) (by kernel_rfl) (by simp) ?_
          refine AllReadyH.cons (o := Oper.mk _ _ _ _ _ _) rfl (fun K hK => ?_) AllReadyH.nil
          have SRp := SR
          have SR := mkHid (SR.out.var (.cells #[.slice none 0 0, .int .i64 0, .int .i64 0] 31))
          obtain ⟨f0, f1, f2, f3⟩ := cel4 SR.out.b1
          obtain ⟨d0, d1⟩ := cel2 SR.out.b2
          go_simp
          refine hK.out _ _ ⟨f0, f1, f2, f3, d0, d1⟩ (fun hHeld => ?_)
          clear hK K
          try simp only [Act.put, List.setIfInBounds_toArray, List.set_cons_zero, List.set_cons_succ]
          refine wpAnyH_ready (rs := [6]) (by kernel_rfl) (by simp) ?_
          refine AllReadyH.cons (o := Oper.mk _ _ _ _ _ _) rfl (fun K hK => ?_) AllReadyH.nil
          obtain ⟨k0, k1, k2⟩ := cel3 SR.out.b0
          have kf := unfrozen SR.out.b0
          have hq0a : w.heap.size + 1 ≠ u2.heap.size := by have := (Array.getElem?_eq_some_iff.1 SRp.out.b0).1; omega
          have hq0b : u2.heap.size ≠ w.heap.size + 1 := fun e => hq0a e.symm
          have hq1a : w.heap.size ≠ u2.heap.size := by have := (Array.getElem?_eq_some_iff.1 SRp.out.b1).1; omega
          have hq1b : u2.heap.size ≠ w.heap.size := fun e => hq1a e.symm
          go_simp
          refine hK.out _ _ (by go_keep) (fun hHeld => ?_)
          clear hK K
          try simp only [Act.put, List.setIfInBounds_toArray, List.set_cons_zero, List.set_cons_succ]
          refine wpAnyH_done (by kernel_rfl) ?_ _
          have SF := mkHid (SRp.out.var (.cells #[.slice av l2.length cv, .int .i64 r2, .int .i64 q2] 31))
          go_wp2
          go_meet
          exact ⟨_, _, _, rfl, mkHid (SF.out.ownRow.lessO.same rfl rfl rfl rfl)⟩
        refine AllReadyH.cons (o := Oper.mk _ _ _ _ _ _) rfl (fun K hK => ?_) AllReadyH.nil
        have SRp := SR
        have SR := mkHid (SR.out.var (.cells #[.slice none 0 0, .int .i64 0, .int .i64 0] 31))
        obtain ⟨f0, f1, f2, f3⟩ := cel4 SR.out.b1
        obtain ⟨d0, d1⟩ := cel2 SR.out.b2
        go_simp
        refine hK.out _ _ ⟨f0, f1, f2, f3, d0, d1⟩ (fun hHeld => ?_)
        clear hK K
        try simp only [Act.put, List.setIfInBounds_toArray, List.set_cons_zero, List.set_cons_succ]
        refine wpAnyH_ready (rs := [4]) (by kernel_rfl) (by simp) ?_
        refine AllReadyH.cons (o := Oper.mk _ _ _ _ _ _) rfl (fun K hK => ?_) AllReadyH.nil
        go_simp
        refine Calls.mono (HS.out _ _ _ hct (by exact SR.out.o0.rd)) ?_
        rintro e u2 ⟨av, cv, rfl, ho, hf, hb, _⟩
        have SR := mkHid (SR.out.own (re hb rfl rfl rfl rfl) ho hf)
        obtain ⟨f0, f1, f2, f3⟩ := cel4 SR.out.b1
        obtain ⟨d0, d1⟩ := cel2 SR.out.b2
        clear hb
        show K _ _
        refine hK.out _ _ ⟨f0, f1, f2, f3, d0, d1⟩ (fun hHeld => ?_)
        clear hK K
        try simp only [Act.put, List.setIfInBounds_toArray, List.set_cons_zero, List.set_cons_succ]
        refine wpAnyH_ready (rs := [6]) (by kernel_rfl) (by simp) ?_
        refine AllReadyH.cons (o := Oper.mk _ _ _ _ _ _) rfl (fun K hK => ?_) AllReadyH.nil
        obtain ⟨k0, k1, k2⟩ := cel3 SR.out.b0
        have kf := unfrozen SR.out.b0
        have hq0a : w.heap.size + 1 ≠ u1.heap.size := by have := (Array.getElem?_eq_some_iff.1 SRp.out.b0).1; omega
        have hq0b : u1.heap.size ≠ w.heap.size + 1 := fun e => hq0a e.symm
        have hq1a : w.heap.size ≠ u1.heap.size := by have := (Array.getElem?_eq_some_iff.1 SRp.out.b1).1; omega
        have hq1b : u1.heap.size ≠ w.heap.size := fun e => hq1a e.symm
        go_simp
        refine hK.out _ _ (by go_keep) (fun hHeld => ?_)
        clear hK K
        try simp only [Act.put, List.setIfInBounds_toArray, List.set_cons_zero, List.set_cons_succ]
        refine wpAnyH_done (by kernel_rfl) ?_ _
        have SF := mkHid (SR.out.wr3 (.slice av l2.length cv) (.int .i64 r2) (.int .i64 q2) SRp.out.below.size SRp.out.fresh SRp.out.freshR)
        go_wp2
        go_meet
        exact ⟨_, _, _, rfl, mkHid (SF.out.ownRow.lessO.same rfl rfl rfl rfl)⟩
      refine AllReadyH.cons (o := Oper.mk _ _ _ _ _ _) rfl (fun K hK => ?_) AllReadyH.nil
      have SRp := SR
      have SR := mkHid (SR.out.var (.cells #[.slice none 0 0, .int .i64 0, .int .i64 0] 31))
      obtain ⟨f0, f1, f2, f3⟩ := cel4 SR.out.b1
      obtain ⟨d0, d1⟩ := cel2 SR.out.b2
      go_simp
      refine hK.out _ _ ⟨f0, f1, f2, f3, d0, d1⟩ (fun hHeld => ?_)
      clear hK K
      try simp only [Act.put, List.setIfInBounds_toArray, List.set_cons_zero, List.set_cons_succ]
      refine wpAnyH_ready (rs := [3]) (by kernel_rfl) (by simp) ?_
      refine AllReadyH.cons (o := Oper.mk _ _ _ _ _ _) rfl (fun K hK => ?_) AllReadyH.nil
      go_simp
      refine Calls.mono (HTO.out _) ?_
      rintro e u1 ⟨rfl, hb⟩
      have SR := mkHid (SR.out.next (re hb rfl rfl rfl rfl))
      obtain ⟨f0, f1, f2, f3⟩ := cel4 SR.out.b1
      obtain ⟨d0, d1⟩ := cel2 SR.out.b2
      clear hb
      show K _ _
      refine hK.out _ _ ⟨f0, f1, f2, f3, d0, d1⟩ (fun hHeld => ?_)
      clear hK K
      try simp only [Act.put, List.setIfInBounds_toArray, List.set_cons_zero, List.set_cons_succ]
      refine wpAnyH_ready (rs := [4]) (by kernel_rfl) (by simp) ?_
      refine AllReadyH.cons (o := Oper.mk _ _ _ _ _ _) rfl (fun K hK => ?_) AllReadyH.nil
      go_simp
      refine Calls.mono (HS.out _ _ _ hct (by exact SR.out.o0.rd)) ?_
      rintro e u2 ⟨av, cv, rfl, ho, hf, hb, _⟩
      have SR := mkHid (SR.out.own (re hb rfl rfl rfl rfl) ho hf)
      obtain ⟨f0, f1, f2, f3⟩ := cel4 SR.out.b1
      obtain ⟨d0, d1⟩ := cel2 SR.out.b2
      clear hb
      show K _ _
      refine hK.out _ _ ⟨f0, f1, f2, f3, d0, d1⟩ (fun hHeld => ?_)
      clear hK K
      try simp only [Act.put, List.setIfInBounds_toArray, List.set_cons_zero, List.set_cons_succ]
      refine wpAnyH_ready (rs := [6]) (by kernel_rfl) (by simp) ?_
      refine AllReadyH.cons (o := Oper.mk _ _ _ _ _ _) rfl (fun K hK => ?_) AllReadyH.nil
      obtain ⟨k0, k1, k2⟩ := cel3 SR.out.b0
      have kf := unfrozen SR.out.b0
      have hq0a : w.heap.size + 1 ≠ u0.heap.size := by have := (Array.getElem?_eq_some_iff.1 SRp.out.b0).1; omega
      have hq0b : u0.heap.size ≠ w.heap.size + 1 := fun e => hq0a e.symm
      have hq1a : w.heap.size ≠ u0.heap.size := by have := (Array.getElem?_eq_some_iff.1 SRp.out.b1).1; omega
      have hq1b : u0.heap.size ≠ w.heap.size := fun e => hq1a e.symm
      go_simp
      refine hK.out _ _ (by go_keep) (fun hHeld => ?_)
      clear hK K
      try simp only [Act.put, List.setIfInBounds_toArray, List.set_cons_zero, List.set_cons_succ]
      refine wpAnyH_done (by kernel_rfl) ?_ _
      have SF := mkHid (SR.out.wr3 (.slice av l2.length cv) (.int .i64 r2) (.int .i64 q2) SRp.out.below.size SRp.out.fresh SRp.out.freshR)
      go_wp2
      go_meet
      exact ⟨_, _, _, rfl, mkHid (SF.out.ownRow.lessO.same rfl rfl rfl rfl)⟩
    refine AllReadyH.cons (o := Oper.mk _ _ _ _ _ _) rfl (fun K hK => ?_) AllReadyH.nil
    have SRp := SR
    have SR := mkHid (SR.out.var (.cells #[.slice none 0 0, .int .i64 0, .int .i64 0] 31))
    obtain ⟨f0, f1, f2, f3⟩ := cel4 SR.out.b1
    obtain ⟨d0, d1⟩ := cel2 SR.out.b2
    go_simp
    refine hK.out _ _ ⟨f0, f1, f2, f3, d0, d1⟩ (fun hHeld => ?_)
    clear hK K
    try simp only [Act.put, List.setIfInBounds_toArray, List.set_cons_zero, List.set_cons_succ]
    refine wpAnyH_ready (rs := [1]) (by kernel_rfl) (by simp) ?_
    refine AllReadyH.cons (o := Oper.mk _ _ _ _ _ _) rfl (fun K hK => ?_) AllReadyH.nil
    go_simp
    refine Calls.mono (HT.out _ (by exact SR.out.r0)) ?_
    rintro e u0 ⟨at1, ct1, rfl, ho, hf, hb, hct⟩
    have SR := mkHid (SR.out.own (re hb rfl rfl rfl rfl) ho hf)
    obtain ⟨f0, f1, f2, f3⟩ := cel4 SR.out.b1
    obtain ⟨d0, d1⟩ := cel2 SR.out.b2
    clear hb
    show K _ _
    refine hK.out _ _ ⟨f0, f1, f2, f3, d0, d1⟩ (fun hHeld => ?_)
    clear hK K
    try simp only [Act.put, List.setIfInBounds_toArray, List.set_cons_zero, List.set_cons_succ]
    refine wpAnyH_ready (rs := [3]) (by kernel_rfl) (by simp) ?_
    refine AllReadyH.cons (o := Oper.mk _ _ _ _ _ _) rfl (fun K hK => ?_) AllReadyH.nil
    go_simp
    refine Calls.mono (HTO.out _) ?_
    rintro e u1 ⟨rfl, hb⟩
    have SR := mkHid (SR.out.next (re hb rfl rfl rfl rfl))
    obtain ⟨f0, f1, f2, f3⟩ := cel4 SR.out.b1
    obtain ⟨d0, d1⟩ := cel2 SR.out.b2
    clear hb
    show K _ _
    refine hK.out _ _ ⟨f0, f1, f2, f3, d0, d1⟩ (fun hHeld => ?_)
    clear hK K
    try simp only [Act.put, List.setIfInBounds_toArray, List.set_cons_zero, List.set_cons_succ]
    refine wpAnyH_ready (rs := [4]) (by kernel_rfl) (by simp) ?_
    refine AllReadyH.cons (o := Oper.mk _ _ _ _ _ _) rfl (fun K hK => ?_) AllReadyH.nil
    go_simp
    refine Calls.mono (HS.out _ _ _ hct (by exact SR.out.o0.rd)) ?_
    rintro e u2 ⟨av, cv, rfl, ho, hf, hb, _⟩
    have SR := mkHid (SR.out.own (re hb rfl rfl rfl rfl) ho hf)
    obtain ⟨f0, f1, f2, f3⟩ := cel4 SR.out.b1
    obtain ⟨d0, d1⟩ := cel2 SR.out.b2
    clear hb
    show K _ _
    refine hK.out _ _ ⟨f0, f1, f2, f3, d0, d1⟩ (fun hHeld => ?_)
    clear hK K
    try simp only [Act.put, List.setIfInBounds_toArray, List.set_cons_zero, List.set_cons_succ]
    refine wpAnyH_ready (rs := [6]) (by kernel_rfl) (by simp) ?_
    refine AllReadyH.cons (o := Oper.mk _ _ _ _ _ _) rfl (fun K hK => ?_) AllReadyH.nil
    obtain ⟨k0, k1, k2⟩ := cel3 SR.out.b0
    have kf := unfrozen SR.out.b0
    have hq0a : w.heap.size + 1 ≠ w2.heap.size := by have := (Array.getElem?_eq_some_iff.1 SRp.out.b0).1; omega
    have hq0b : w2.heap.size ≠ w.heap.size + 1 := fun e => hq0a e.symm
    have hq1a : w.heap.size ≠ w2.heap.size := by have := (Array.getElem?_eq_some_iff.1 SRp.out.b1).1; omega
    have hq1b : w2.heap.size ≠ w.heap.size := fun e => hq1a e.symm
    go_simp
    refine hK.out _ _ (by go_keep) (fun hHeld => ?_)
    clear hK K
    try simp only [Act.put, List.setIfInBounds_toArray, List.set_cons_zero, List.set_cons_succ]
    refine wpAnyH_done (by kernel_rfl) ?_ _
    have SF := mkHid (SR.out.wr3 (.slice av l2.length cv) (.int .i64 r2) (.int .i64 q2) SRp.out.below.size SRp.out.fresh SRp.out.freshR)
    go_wp2
    go_meet
    exact ⟨_, _, _, rfl, mkHid (SF.out.ownRow.lessO.same rfl rfl rfl rfl)⟩
  obtain ⟨P0, a8, c8, rfl, S8⟩ := hcut
  clear S2
  obtain ⟨k8aD0, k8aD1⟩ := cel2 S8.out.b2
  go_wp2_with fail
  refine (HT.out _ S8.out.r1).mono ?_
  rintro e w9 ⟨a9, c9, rfl, ho9, hf9, hb9, hc9⟩
  have S9 := mkHid ((S8.out.own hb9 ho9 hf9).var (.cells #[.slice a9 l.length c9, .int .i64 r] 25))
  clear k8aD0 k8aD1
  clear hb9 S8 ho9 hf9
  go_wp2_with fail
  go_cut [8] (fun s wx => ∃ P a' c', s = .pointer (some ⟨P, 0, none⟩) ∧ Hid (mem.Mem w [(P, .cells #[.slice a' l2.length c', .int .i64 r2, .int .i64 q2] 31), (w9.heap.size, .cells #[.slice a9 l.length c9, .int .i64 r] 25), (P0, .cells #[.slice a8 l2.length c8, .int .i64 r2, .int .i64 q2] 31), (w.heap.size + 1, .cells #[.int .i64 q, .string n, .string t, .string x] 47), (w.heap.size, .cells #[.slice a l.length c, .int .i64 r] 46)] [(a8, cs l2), (a, cs l)] [⟨39, a', cs l2⟩, ⟨39, a9, cs l⟩] wx))
  case first =>
    generalize w9.alloc (.cells #[.slice a9 l.length c9, .int .i64 r] 25) = V9 at *
    have SR := S9
    obtain ⟨f0, f1, f2, f3⟩ := cel4 SR.out.b2
    obtain ⟨x0, x1⟩ := cel2 SR.out.b0
    refine wp_region_held_drew (S := fun w' => w'.cell? ⟨w.heap.size + 1, 0, none⟩ = some (.int .i64 q) ∧ w'.cell? ⟨w.heap.size + 1, 1, none⟩ = some (.string n) ∧ w'.cell? ⟨w.heap.size + 1, 2, none⟩ = some (.string t) ∧ w'.cell? ⟨w.heap.size + 1, 3, none⟩ = some (.string x) ∧ w'.cell? ⟨w9.heap.size, 0, none⟩ = some (.slice a9 l.length c9) ∧ w'.cell? ⟨w9.heap.size, 1, none⟩ = some (.int .i64 r)) (by kernel_rfl) (by exact ⟨f0, f1, f2, f3, x0, x1⟩) (fun hHeld => ?_)
    refine wpAnyH_take (i := 0) (oi := Oper.mk _ _ _ _ _ _) (v := ?_) rfl (by kernel_rfl) (by kernel_rfl) (by kernel_rfl) (fun _ _ _ h => h) (Or.inl ⟨by rfl, ?_⟩) (by assumption) ?_
    rotate_left
    · intro w hSw
      try dsimp only at hSw
      go_simp
      all_goals with_reducible rfl
    try simp only [Act.put, List.setIfInBounds_toArray, List.set_cons_zero, List.set_cons_succ]
    refine wpAnyH_take (i := 1) (oi := Oper.mk _ _ _ _ _ _) (v := ?_) rfl (by kernel_rfl) (by kernel_rfl) (by kernel_rfl) (fun _ _ _ h => h) (Or.inl ⟨by rfl, ?_⟩) (by assumption) ?_
    rotate_left
    · intro w hSw
      try dsimp only at hSw
      go_simp
      all_goals with_reducible rfl
    try simp only [Act.put, List.setIfInBounds_toArray, List.set_cons_zero, List.set_cons_succ]
    refine wpAnyH_ready (rs := [2, 4]) (by kernel_rfl) (by simp) ?_
    refine AllReadyH.cons (o := Oper.mk _ _ _ _ _ _) rfl (fun K hK => ?_) ?_
    · skip
      go_simp
      refine Calls.mono (HTO.out _) ?_
      rintro e u0 ⟨rfl, hb⟩
      have SR := mkHid (SR.out.next (re hb rfl rfl rfl rfl))
      obtain ⟨f0, f1, f2, f3⟩ := cel4 SR.out.b2
      obtain ⟨x0, x1⟩ := cel2 SR.out.b0
      clear hb
      show K _ _
      refine hK.out _ _ ⟨f0, f1, f2, f3, x0, x1⟩ (fun hHeld => ?_)
      clear hK K
      try simp only [Act.put, List.setIfInBounds_toArray, List.set_cons_zero, List.set_cons_succ]
      refine wpAnyH_ready (rs := [3, 4]) (by kernel_rfl) (by simp) ?_
      refine AllReadyH.cons (o := Oper.mk _ _ _ _ _ _) rfl (fun K hK => ?_) ?_
      · skip
        go_simp
        refine Calls.mono (HI.out _ _ _ (by exact SR.out.o0.rd)) ?_
        rintro e u1 ⟨av, cv, rfl, ho, hf, hb, _⟩
        have SR := mkHid (SR.out.own (re hb rfl rfl rfl rfl) ho hf)
        obtain ⟨f0, f1, f2, f3⟩ := cel4 SR.out.b2
        obtain ⟨x0, x1⟩ := cel2 SR.out.b0
        clear hb
        show K _ _
        refine hK.out _ _ ⟨f0, f1, f2, f3, x0, x1⟩ (fun hHeld => ?_)
        clear hK K
        try simp only [Act.put, List.setIfInBounds_toArray, List.set_cons_zero, List.set_cons_succ]
        refine wpAnyH_ready (rs := [4]) (by kernel_rfl) (by simp) ?_
        refine AllReadyH.cons (o := Oper.mk _ _ _ _ _ _) rfl (fun K hK => ?_) AllReadyH.nil
        have SRp := SR
        have SR := mkHid (SR.out.var (.cells #[.slice none 0 0, .int .i64 0, .int .i64 0] 31))
        obtain ⟨f0, f1, f2, f3⟩ := cel4 SR.out.b3
        obtain ⟨x0, x1⟩ := cel2 SR.out.b1
        go_simp
        refine hK.out _ _ ⟨f0, f1, f2, f3, x0, x1⟩ (fun hHeld => ?_)
        clear hK K
        try simp only [Act.put, List.setIfInBounds_toArray, List.set_cons_zero, List.set_cons_succ]
        refine wpAnyH_ready (rs := [5]) (by kernel_rfl) (by simp) ?_
        refine AllReadyH.cons (o := Oper.mk _ _ _ _ _ _) rfl (fun K hK => ?_) AllReadyH.nil
        obtain ⟨k0, k1, k2⟩ := cel3 SR.out.b0
        have kf := unfrozen SR.out.b0
        have hq0a : w9.heap.size ≠ u1.heap.size := by have := (Array.getElem?_eq_some_iff.1 SRp.out.b0).1; omega
        have hq0b : u1.heap.size ≠ w9.heap.size := fun e => hq0a e.symm
        have hq2a : w.heap.size + 1 ≠ u1.heap.size := by have := (Array.getElem?_eq_some_iff.1 SRp.out.b2).1; omega
        have hq2b : u1.heap.size ≠ w.heap.size + 1 := fun e => hq2a e.symm
        go_simp
        refine hK.out _ _ (by go_keep) (fun hHeld => ?_)
        clear hK K
        try simp only [Act.put, List.setIfInBounds_toArray, List.set_cons_zero, List.set_cons_succ]
        refine wpAnyH_done (by kernel_rfl) ?_ _
        have SF := mkHid (SRp.out.var (.cells #[.slice av l2.length cv, .int .i64 r2, .int .i64 q2] 31))
        go_wp2
        go_meet
        exact ⟨_, _, _, rfl, mkHid (SF.out.same rfl rfl rfl rfl)⟩
      refine AllReadyH.cons (o := Oper.mk _ _ _ _ _ _) rfl (fun K hK => ?_) AllReadyH.nil
      have SRp := SR
      have SR := mkHid (SR.out.var (.cells #[.slice none 0 0, .int .i64 0, .int .i64 0] 31))
      obtain ⟨f0, f1, f2, f3⟩ := cel4 SR.out.b3
      obtain ⟨x0, x1⟩ := cel2 SR.out.b1
      go_simp
      refine hK.out _ _ ⟨f0, f1, f2, f3, x0, x1⟩ (fun hHeld => ?_)
      clear hK K
      try simp only [Act.put, List.setIfInBounds_toArray, List.set_cons_zero, List.set_cons_succ]
      refine wpAnyH_ready (rs := [3]) (by kernel_rfl) (by simp) ?_
      refine AllReadyH.cons (o := Oper.mk _ _ _ _ _ _) rfl (fun K hK => ?_) AllReadyH.nil
      go_simp
      refine Calls.mono (HI.out _ _ _ (by exact SR.out.o0.rd)) ?_
      rintro e u1 ⟨av, cv, rfl, ho, hf, hb, _⟩
      have SR := mkHid (SR.out.own (re hb rfl rfl rfl rfl) ho hf)
      obtain ⟨f0, f1, f2, f3⟩ := cel4 SR.out.b3
      obtain ⟨x0, x1⟩ := cel2 SR.out.b1
      clear hb
      show K _ _
      refine hK.out _ _ ⟨f0, f1, f2, f3, x0, x1⟩ (fun hHeld => ?_)
      clear hK K
      try simp only [Act.put, List.setIfInBounds_toArray, List.set_cons_zero, List.set_cons_succ]
      refine wpAnyH_ready (rs := [5]) (by kernel_rfl) (by simp) ?_
      refine AllReadyH.cons (o := Oper.mk _ _ _ _ _ _) rfl (fun K hK => ?_) AllReadyH.nil
      obtain ⟨k0, k1, k2⟩ := cel3 SR.out.b0
      have kf := unfrozen SR.out.b0
      have hq0a : w9.heap.size ≠ u0.heap.size := by have := (Array.getElem?_eq_some_iff.1 SRp.out.b0).1; omega
      have hq0b : u0.heap.size ≠ w9.heap.size := fun e => hq0a e.symm
      have hq2a : w.heap.size + 1 ≠ u0.heap.size := by have := (Array.getElem?_eq_some_iff.1 SRp.out.b2).1; omega
      have hq2b : u0.heap.size ≠ w.heap.size + 1 := fun e => hq2a e.symm
      go_simp
      refine hK.out _ _ (by go_keep) (fun hHeld => ?_)
      clear hK K
      try simp only [Act.put, List.setIfInBounds_toArray, List.set_cons_zero, List.set_cons_succ]
      refine wpAnyH_done (by kernel_rfl) ?_ _
      have SF := mkHid (SR.out.wr3 (.slice av l2.length cv) (.int .i64 r2) (.int .i64 q2) SRp.out.below.size SRp.out.fresh SRp.out.freshR)
      go_wp2
      go_meet
      exact ⟨_, _, _, rfl, mkHid (SF.out.same rfl rfl rfl rfl)⟩
    refine AllReadyH.cons (o := Oper.mk _ _ _ _ _ _) rfl (fun K hK => ?_) AllReadyH.nil
    have SRp := SR
    have SR := mkHid (SR.out.var (.cells #[.slice none 0 0, .int .i64 0, .int .i64 0] 31))
    obtain ⟨f0, f1, f2, f3⟩ := cel4 SR.out.b3
    obtain ⟨x0, x1⟩ := cel2 SR.out.b1
    go_simp
    refine hK.out _ _ ⟨f0, f1, f2, f3, x0, x1⟩ (fun hHeld => ?_)
    clear hK K
    try simp only [Act.put, List.setIfInBounds_toArray, List.set_cons_zero, List.set_cons_succ]
    refine wpAnyH_ready (rs := [2]) (by kernel_rfl) (by simp) ?_
    refine AllReadyH.cons (o := Oper.mk _ _ _ _ _ _) rfl (fun K hK => ?_) AllReadyH.nil
    go_simp
    refine Calls.mono (HTO.out _) ?_
    rintro e u0 ⟨rfl, hb⟩
    have SR := mkHid (SR.out.next (re hb rfl rfl rfl rfl))
    obtain ⟨f0, f1, f2, f3⟩ := cel4 SR.out.b3
    obtain ⟨x0, x1⟩ := cel2 SR.out.b1
    clear hb
    show K _ _
    refine hK.out _ _ ⟨f0, f1, f2, f3, x0, x1⟩ (fun hHeld => ?_)
    clear hK K
    try simp only [Act.put, List.setIfInBounds_toArray, List.set_cons_zero, List.set_cons_succ]
    refine wpAnyH_ready (rs := [3]) (by kernel_rfl) (by simp) ?_
    refine AllReadyH.cons (o := Oper.mk _ _ _ _ _ _) rfl (fun K hK => ?_) AllReadyH.nil
    go_simp
    refine Calls.mono (HI.out _ _ _ (by exact SR.out.o0.rd)) ?_
    rintro e u1 ⟨av, cv, rfl, ho, hf, hb, _⟩
    have SR := mkHid (SR.out.own (re hb rfl rfl rfl rfl) ho hf)
    obtain ⟨f0, f1, f2, f3⟩ := cel4 SR.out.b3
    obtain ⟨x0, x1⟩ := cel2 SR.out.b1
    clear hb
    show K _ _
    refine hK.out _ _ ⟨f0, f1, f2, f3, x0, x1⟩ (fun hHeld => ?_)
    clear hK K
    try simp only [Act.put, List.setIfInBounds_toArray, List.set_cons_zero, List.set_cons_succ]
    refine wpAnyH_ready (rs := [5]) (by kernel_rfl) (by simp) ?_
    refine AllReadyH.cons (o := Oper.mk _ _ _ _ _ _) rfl (fun K hK => ?_) AllReadyH.nil
    obtain ⟨k0, k1, k2⟩ := cel3 SR.out.b0
    have kf := unfrozen SR.out.b0
    have hq0a : w9.heap.size ≠ V9.heap.size := by have := (Array.getElem?_eq_some_iff.1 SRp.out.b0).1; omega
    have hq0b : V9.heap.size ≠ w9.heap.size := fun e => hq0a e.symm
    have hq2a : w.heap.size + 1 ≠ V9.heap.size := by have := (Array.getElem?_eq_some_iff.1 SRp.out.b2).1; omega
    have hq2b : V9.heap.size ≠ w.heap.size + 1 := fun e => hq2a e.symm
    go_simp
    refine hK.out _ _ (by go_keep) (fun hHeld => ?_)
    clear hK K
    try simp only [Act.put, List.setIfInBounds_toArray, List.set_cons_zero, List.set_cons_succ]
    refine wpAnyH_done (by kernel_rfl) ?_ _
    have SF := mkHid (SR.out.wr3 (.slice av l2.length cv) (.int .i64 r2) (.int .i64 q2) SRp.out.below.size SRp.out.fresh SRp.out.freshR)
    go_wp2
    go_meet
    exact ⟨_, _, _, rfl, mkHid (SF.out.same rfl rfl rfl rfl)⟩
  obtain ⟨P1, a10, c10, rfl, S10⟩ := hcut
  clear S9
  obtain ⟨k10g00, k10g01, k10g02⟩ := cel3 S10.out.b0
  obtain ⟨k10w00, k10w01, k10w02⟩ := cel3 S10.out.b2
  go_wp2_with fail
  refine (HE.out _ _ _ _ _ S10.out.o0.rd S10.out.r0).mono ?_
  rintro e w11 ⟨rfl, hb11⟩
  have S11 := mkHid (S10.out.next hb11)
  clear k10g00 k10g01 k10g02 k10w00 k10w01 k10w02
  clear hb11 S10 
  obtain ⟨k11aD0, k11aD1⟩ := cel2 S11.out.b4
  obtain ⟨k11x00, k11x01⟩ := cel2 S11.out.b1
  go_wp2_with fail
  go_region_held3 (fun w' => w'.cell? ⟨w.heap.size, 0, none⟩ = some (.slice a l.length c) ∧ w'.cell? ⟨w.heap.size, 1, none⟩ = some (.int .i64 r) ∧ w'.cell? ⟨w9.heap.size, 0, none⟩ = some (.slice a9 l.length c9) ∧ w'.cell? ⟨w9.heap.size, 1, none⟩ = some (.int .i64 r)) (go_keep)
    ((first
      | (go_at_call 20; refine Calls.mono (HT.out _ (by exact S11.out.r1)) ?_; rintro e w12 ⟨a12, c12, rfl, ho12, hf12, hb12, _⟩; have S12 := mkHid (S11.out.own (re hb12 rfl rfl rfl rfl) ho12 hf12); obtain ⟨ux00, ux01⟩ := cel2 S12.out.b1; obtain ⟨uaD0, uaD1⟩ := cel2 S12.out.b4; clear hb12 ho12 hf12)
      | (go_at_call 23; refine Calls.mono (HEX.out _ _ _ _ _ (by exact S12.out.o2.rd) (by exact S12.out.o0.rd)) ?_; rintro e w13 ⟨rfl, hb13⟩; have S13 := mkHid (S12.out.next (re hb13 rfl rfl rfl rfl)); obtain ⟨vx00, vx01⟩ := cel2 S13.out.b1; obtain ⟨vaD0, vaD1⟩ := cel2 S13.out.b4; clear hb13)))
  have S13' := mkHid S13.out.lessO
  clear k11aD0 k11aD1 k11x00 k11x01 ux00 ux01 uaD0 uaD1 vx00 vx01 vaD0 vaD1
  clear S11 S12 S13
  obtain ⟨k13x00, k13x01⟩ := cel2 S13'.out.b1
  have Sm := mkHid S13'.out.swap
  clear S13'
  go_wp2_with fail
  refine (HMX.out _ _ _ Sm.out.o0).mono ?_
  rintro e w14 ⟨rfl, ho14, q14, hg14, hq14⟩
  have S14 := mkHid (Sm.out.mark hg14 hq14 ho14 QX.out)
  clear k13x00 k13x01
  clear ho14 hg14 hq14 Sm 
  have So := mkHid S14.out.lessO
  clear S14
  obtain ⟨k14w00, k14w01, k14w02⟩ := cel3 So.out.b2
  obtain ⟨k14g00, k14g01, k14g02⟩ := cel3 So.out.b0
  go_wp2_with fail
  refine (HE.out _ _ _ _ _ So.out.o0.rd So.out.r0).mono ?_
  rintro e w15 ⟨rfl, hb15⟩
  have S15 := mkHid (So.out.next hb15)
  clear k14w00 k14w01 k14w02 k14g00 k14g01 k14g02
  clear hb15 So 
  obtain ⟨k15g00, k15g01, k15g02⟩ := cel3 S15.out.b0
  go_wp2_with fail
  refine (HMG.out _ _ _ S15.out.o0).mono ?_
  rintro e w16 ⟨rfl, ho16, q16, hg16, hq16⟩
  have S16 := mkHid (S15.out.mark hg16 hq16 ho16 QG.out)
  clear k15g00 k15g01 k15g02
  clear ho16 hg16 hq16 S15 
  obtain ⟨k16g00, k16g01, k16g02⟩ := cel3 S16.out.b0
  go_wp2_with fail
  refine (HHG.out _ _ _ S16.out.o0.rd).mono ?_
  rintro e w17 ⟨rfl, hb17⟩
  have S17 := mkHid (S16.out.next hb17)
  clear k16g00 k16g01 k16g02
  clear hb17 S16 
  go_wp2_with fail
  go_cut [12] (fun s wx => ∃ P a' c', s = .pointer (some ⟨P, 0, none⟩) ∧ Hid (mem.Mem w [(P, .cells #[.slice a' l2.length c', .int .i64 r2, .int .i64 q2] 31), (P1, .cells #[.slice a10 l2.length c10, .int .i64 r2, .int .i64 q2] 31), (w9.heap.size, .cells #[.slice a9 l.length c9, .int .i64 r] 25), (P0, .cells #[.slice a8 l2.length c8, .int .i64 r2, .int .i64 q2] 31), (w.heap.size + 1, .cells #[.int .i64 q, .string n, .string t, .string x] 47), (w.heap.size, .cells #[.slice a l.length c, .int .i64 r] 46)] [(a', cs l2), (a8, cs l2), (a, cs l)] [⟨39, a10, cs (me 1 l2.length)⟩] wx))
  case first =>
    have SR := S17
    obtain ⟨f0, f1, f2, f3⟩ := cel4 SR.out.b3
    obtain ⟨d0, d1⟩ := cel2 SR.out.b4
    refine wp_region_held_drew (S := fun w' => w'.cell? ⟨w.heap.size + 1, 0, none⟩ = some (.int .i64 q) ∧ w'.cell? ⟨w.heap.size + 1, 1, none⟩ = some (.string n) ∧ w'.cell? ⟨w.heap.size + 1, 2, none⟩ = some (.string t) ∧ w'.cell? ⟨w.heap.size + 1, 3, none⟩ = some (.string x) ∧ w'.cell? ⟨w.heap.size, 0, none⟩ = some (.slice a l.length c) ∧ w'.cell? ⟨w.heap.size, 1, none⟩ = some (.int .i64 r)) (by kernel_rfl) (by exact ⟨f0, f1, f2, f3, d0, d1⟩) (fun hHeld => ?_)
    refine wpAnyH_take (i := 0) (oi := Oper.mk _ _ _ _ _ _) (v := ?_) rfl (by kernel_rfl) (by kernel_rfl) (by kernel_rfl) (fun _ _ _ h => h) (Or.inl ⟨by rfl, ?_⟩) (by assumption) ?_
    rotate_left
    · intro w hSw
      try dsimp only at hSw
      go_simp
      all_goals with_reducible rfl
    try simp only [Act.put, List.setIfInBounds_toArray, List.set_cons_zero, List.set_cons_succ]
    refine wpAnyH_take (i := 2) (oi := Oper.mk _ _ _ _ _ _) (v := ?_) rfl (by kernel_rfl) (by kernel_rfl) (by kernel_rfl) (fun _ _ _ h => h) (Or.inl ⟨by rfl, ?_⟩) (by assumption) ?_
    rotate_left
    · intro w hSw
      try dsimp only at hSw
      go_simp
      all_goals with_reducible rfl
    try simp only [Act.put, List.setIfInBounds_toArray, List.set_cons_zero, List.set_cons_succ]
    refine wpAnyH_ready (rs := [1, 5]) (by kernel_rfl) (by simp) ?_
    refine AllReadyH.cons (o := Oper.mk _ _ _ _ _ _) rfl (fun K hK => ?_) ?_
    · skip
      go_simp
      refine Calls.mono (HT.out _ (by exact SR.out.r1)) ?_
      rintro e u0 ⟨at1, ct1, rfl, ho, hf, hb, hct⟩
      have SR := mkHid (SR.out.own (re hb rfl rfl rfl rfl) ho hf)
      obtain ⟨f0, f1, f2, f3⟩ := cel4 SR.out.b3
      obtain ⟨d0, d1⟩ := cel2 SR.out.b4
      clear hb
      show K _ _
      refine hK.out _ _ ⟨f0, f1, f2, f3, d0, d1⟩ (fun hHeld => ?_)
      clear hK K
      try simp only [Act.put, List.setIfInBounds_toArray, List.set_cons_zero, List.set_cons_succ]
      refine wpAnyH_ready (rs := [3, 5]) (by kernel_rfl) (by simp) ?_
      refine AllReadyH.cons (o := Oper.mk _ _ _ _ _ _) rfl (fun K hK => ?_) ?_
      · skip
        go_simp
        refine Calls.mono (HTO.out _) ?_
        rintro e u1 ⟨rfl, hb⟩
        have SR := mkHid (SR.out.next (re hb rfl rfl rfl rfl))
        obtain ⟨f0, f1, f2, f3⟩ := cel4 SR.out.b3
        obtain ⟨d0, d1⟩ := cel2 SR.out.b4
        clear hb
        show K _ _
        refine hK.out _ _ ⟨f0, f1, f2, f3, d0, d1⟩ (fun hHeld => ?_)
        clear hK K
        try simp only [Act.put, List.setIfInBounds_toArray, List.set_cons_zero, List.set_cons_succ]
        refine wpAnyH_ready (rs := [4, 5]) (by kernel_rfl) (by simp) ?_
        refine AllReadyH.cons (o := Oper.mk _ _ _ _ _ _) rfl (fun K hK => ?_) ?_
        · skip
          go_simp
          refine Calls.mono (HI.out _ _ _ (by exact SR.out.o0.rd)) ?_
          rintro e u2 ⟨av, cv, rfl, ho, hf, hb, _⟩
          have SR := mkHid (SR.out.own (re hb rfl rfl rfl rfl) ho hf)
          obtain ⟨f0, f1, f2, f3⟩ := cel4 SR.out.b3
          obtain ⟨d0, d1⟩ := cel2 SR.out.b4
          clear hb
          show K _ _
          refine hK.out _ _ ⟨f0, f1, f2, f3, d0, d1⟩ (fun hHeld => ?_)
          clear hK K
          try simp only [Act.put, List.setIfInBounds_toArray, List.set_cons_zero, List.set_cons_succ]
          refine wpAnyH_ready (rs := [5]) (by kernel_rfl) (by simp) ?_
          refine AllReadyH.cons (o := Oper.mk _ _ _ _ _ _) rfl (fun K hK => ?_) AllReadyH.nil
          have SRp := SR
          have SR := mkHid (SR.out.var (.cells #[.slice none 0 0, .int .i64 0, .int .i64 0] 31))
          obtain ⟨f0, f1, f2, f3⟩ := cel4 SR.out.b4
          obtain ⟨d0, d1⟩ := cel2 SR.out.b5
          go_simp
          refine hK.out _ _ ⟨f0, f1, f2, f3, d0, d1⟩ (fun hHeld => ?_)
          clear hK K
          try simp only [Act.put, List.setIfInBounds_toArray, List.set_cons_zero, List.set_cons_succ]
          refine wpAnyH_ready (rs := [6]) (by kernel_rfl) (by simp) ?_
          refine AllReadyH.cons (o := Oper.mk _ _ _ _ _ _) rfl (fun K hK => ?_) AllReadyH.nil
          obtain ⟨k0, k1, k2⟩ := cel3 SR.out.b0
          have kf := unfrozen SR.out.b0
          have hq3a : w.heap.size + 1 ≠ u2.heap.size := by have := (Array.getElem?_eq_some_iff.1 SRp.out.b3).1; omega
          have hq3b : u2.heap.size ≠ w.heap.size + 1 := fun e => hq3a e.symm
          have hq4a : w.heap.size ≠ u2.heap.size := by have := (Array.getElem?_eq_some_iff.1 SRp.out.b4).1; omega
          have hq4b : u2.heap.size ≠ w.heap.size := fun e => hq4a e.symm
          go_simp
          refine hK.out _ _ (by go_keep) (fun hHeld => ?_)
          clear hK K
          try simp only [Act.put, List.setIfInBounds_toArray, List.set_cons_zero, List.set_cons_succ]
          refine wpAnyH_done (by kernel_rfl) ?_ _
          have SF := mkHid (SRp.out.var (.cells #[.slice av l2.length cv, .int .i64 r2, .int .i64 q2] 31))
          go_wp2
          go_meet
          exact ⟨_, _, _, rfl, mkHid (SF.out.ownRow.lessO.same rfl rfl rfl rfl)⟩
        refine AllReadyH.cons (o := Oper.mk _ _ _ _ _ _) rfl (fun K hK => ?_) AllReadyH.nil
        have SRp := SR
        have SR := mkHid (SR.out.var (.cells #[.slice none 0 0, .int .i64 0, .int .i64 0] 31))
        obtain ⟨f0, f1, f2, f3⟩ := cel4 SR.out.b4
        obtain ⟨d0, d1⟩ := cel2 SR.out.b5
        go_simp
        refine hK.out _ _ ⟨f0, f1, f2, f3, d0, d1⟩ (fun hHeld => ?_)
        clear hK K
        try simp only [Act.put, List.setIfInBounds_toArray, List.set_cons_zero, List.set_cons_succ]
        refine wpAnyH_ready (rs := [4]) (by kernel_rfl) (by simp) ?_
        refine AllReadyH.cons (o := Oper.mk _ _ _ _ _ _) rfl (fun K hK => ?_) AllReadyH.nil
        go_simp
        refine Calls.mono (HI.out _ _ _ (by exact SR.out.o0.rd)) ?_
        rintro e u2 ⟨av, cv, rfl, ho, hf, hb, _⟩
        have SR := mkHid (SR.out.own (re hb rfl rfl rfl rfl) ho hf)
        obtain ⟨f0, f1, f2, f3⟩ := cel4 SR.out.b4
        obtain ⟨d0, d1⟩ := cel2 SR.out.b5
        clear hb
        show K _ _
        refine hK.out _ _ ⟨f0, f1, f2, f3, d0, d1⟩ (fun hHeld => ?_)
        clear hK K
        try simp only [Act.put, List.setIfInBounds_toArray, List.set_cons_zero, List.set_cons_succ]
        refine wpAnyH_ready (rs := [6]) (by kernel_rfl) (by simp) ?_
        refine AllReadyH.cons (o := Oper.mk _ _ _ _ _ _) rfl (fun K hK => ?_) AllReadyH.nil
        obtain ⟨k0, k1, k2⟩ := cel3 SR.out.b0
        have kf := unfrozen SR.out.b0
        have hq3a : w.heap.size + 1 ≠ u1.heap.size := by have := (Array.getElem?_eq_some_iff.1 SRp.out.b3).1; omega
        have hq3b : u1.heap.size ≠ w.heap.size + 1 := fun e => hq3a e.symm
        have hq4a : w.heap.size ≠ u1.heap.size := by have := (Array.getElem?_eq_some_iff.1 SRp.out.b4).1; omega
        have hq4b : u1.heap.size ≠ w.heap.size := fun e => hq4a e.symm
        go_simp
        refine hK.out _ _ (by go_keep) (fun hHeld => ?_)
        clear hK K
        try simp only [Act.put, List.setIfInBounds_toArray, List.set_cons_zero, List.set_cons_succ]
        refine wpAnyH_done (by kernel_rfl) ?_ _
        have SF := mkHid (SR.out.wr3 (.slice av l2.length cv) (.int .i64 r2) (.int .i64 q2) SRp.out.below.size SRp.out.fresh SRp.out.freshR)
        go_wp2
        go_meet
        exact ⟨_, _, _, rfl, mkHid (SF.out.ownRow.lessO.same rfl rfl rfl rfl)⟩
      refine AllReadyH.cons (o := Oper.mk _ _ _ _ _ _) rfl (fun K hK => ?_) AllReadyH.nil
      have SRp := SR
      have SR := mkHid (SR.out.var (.cells #[.slice none 0 0, .int .i64 0, .int .i64 0] 31))
      obtain ⟨f0, f1, f2, f3⟩ := cel4 SR.out.b4
      obtain ⟨d0, d1⟩ := cel2 SR.out.b5
      go_simp
      refine hK.out _ _ ⟨f0, f1, f2, f3, d0, d1⟩ (fun hHeld => ?_)
      clear hK K
      try simp only [Act.put, List.setIfInBounds_toArray, List.set_cons_zero, List.set_cons_succ]
      refine wpAnyH_ready (rs := [3]) (by kernel_rfl) (by simp) ?_
      refine AllReadyH.cons (o := Oper.mk _ _ _ _ _ _) rfl (fun K hK => ?_) AllReadyH.nil
      go_simp
      refine Calls.mono (HTO.out _) ?_
      rintro e u1 ⟨rfl, hb⟩
      have SR := mkHid (SR.out.next (re hb rfl rfl rfl rfl))
      obtain ⟨f0, f1, f2, f3⟩ := cel4 SR.out.b4
      obtain ⟨d0, d1⟩ := cel2 SR.out.b5
      clear hb
      show K _ _
      refine hK.out _ _ ⟨f0, f1, f2, f3, d0, d1⟩ (fun hHeld => ?_)
      clear hK K
      try simp only [Act.put, List.setIfInBounds_toArray, List.set_cons_zero, List.set_cons_succ]
      refine wpAnyH_ready (rs := [4]) (by kernel_rfl) (by simp) ?_
      refine AllReadyH.cons (o := Oper.mk _ _ _ _ _ _) rfl (fun K hK => ?_) AllReadyH.nil
      go_simp
      refine Calls.mono (HI.out _ _ _ (by exact SR.out.o0.rd)) ?_
      rintro e u2 ⟨av, cv, rfl, ho, hf, hb, _⟩
      have SR := mkHid (SR.out.own (re hb rfl rfl rfl rfl) ho hf)
      obtain ⟨f0, f1, f2, f3⟩ := cel4 SR.out.b4
      obtain ⟨d0, d1⟩ := cel2 SR.out.b5
      clear hb
      show K _ _
      refine hK.out _ _ ⟨f0, f1, f2, f3, d0, d1⟩ (fun hHeld => ?_)
      clear hK K
      try simp only [Act.put, List.setIfInBounds_toArray, List.set_cons_zero, List.set_cons_succ]
      refine wpAnyH_ready (rs := [6]) (by kernel_rfl) (by simp) ?_
      refine AllReadyH.cons (o := Oper.mk _ _ _ _ _ _) rfl (fun K hK => ?_) AllReadyH.nil
      obtain ⟨k0, k1, k2⟩ := cel3 SR.out.b0
      have kf := unfrozen SR.out.b0
      have hq3a : w.heap.size + 1 ≠ u0.heap.size := by have := (Array.getElem?_eq_some_iff.1 SRp.out.b3).1; omega
      have hq3b : u0.heap.size ≠ w.heap.size + 1 := fun e => hq3a e.symm
      have hq4a : w.heap.size ≠ u0.heap.size := by have := (Array.getElem?_eq_some_iff.1 SRp.out.b4).1; omega
      have hq4b : u0.heap.size ≠ w.heap.size := fun e => hq4a e.symm
      go_simp
      refine hK.out _ _ (by go_keep) (fun hHeld => ?_)
      clear hK K
      try simp only [Act.put, List.setIfInBounds_toArray, List.set_cons_zero, List.set_cons_succ]
      refine wpAnyH_done (by kernel_rfl) ?_ _
      have SF := mkHid (SR.out.wr3 (.slice av l2.length cv) (.int .i64 r2) (.int .i64 q2) SRp.out.below.size SRp.out.fresh SRp.out.freshR)
      go_wp2
      go_meet
      exact ⟨_, _, _, rfl, mkHid (SF.out.ownRow.lessO.same rfl rfl rfl rfl)⟩
    refine AllReadyH.cons (o := Oper.mk _ _ _ _ _ _) rfl (fun K hK => ?_) AllReadyH.nil
    have SRp := SR
    have SR := mkHid (SR.out.var (.cells #[.slice none 0 0, .int .i64 0, .int .i64 0] 31))
    obtain ⟨f0, f1, f2, f3⟩ := cel4 SR.out.b4
    obtain ⟨d0, d1⟩ := cel2 SR.out.b5
    go_simp
    refine hK.out _ _ ⟨f0, f1, f2, f3, d0, d1⟩ (fun hHeld => ?_)
    clear hK K
    try simp only [Act.put, List.setIfInBounds_toArray, List.set_cons_zero, List.set_cons_succ]
    refine wpAnyH_ready (rs := [1]) (by kernel_rfl) (by simp) ?_
    refine AllReadyH.cons (o := Oper.mk _ _ _ _ _ _) rfl (fun K hK => ?_) AllReadyH.nil
    go_simp
    refine Calls.mono (HT.out _ (by exact SR.out.r1)) ?_
    rintro e u0 ⟨at1, ct1, rfl, ho, hf, hb, hct⟩
    have SR := mkHid (SR.out.own (re hb rfl rfl rfl rfl) ho hf)
    obtain ⟨f0, f1, f2, f3⟩ := cel4 SR.out.b4
    obtain ⟨d0, d1⟩ := cel2 SR.out.b5
    clear hb
    show K _ _
    refine hK.out _ _ ⟨f0, f1, f2, f3, d0, d1⟩ (fun hHeld => ?_)
    clear hK K
    try simp only [Act.put, List.setIfInBounds_toArray, List.set_cons_zero, List.set_cons_succ]
    refine wpAnyH_ready (rs := [3]) (by kernel_rfl) (by simp) ?_
    refine AllReadyH.cons (o := Oper.mk _ _ _ _ _ _) rfl (fun K hK => ?_) AllReadyH.nil
    go_simp
    refine Calls.mono (HTO.out _) ?_
    rintro e u1 ⟨rfl, hb⟩
    have SR := mkHid (SR.out.next (re hb rfl rfl rfl rfl))
    obtain ⟨f0, f1, f2, f3⟩ := cel4 SR.out.b4
    obtain ⟨d0, d1⟩ := cel2 SR.out.b5
    clear hb
    show K _ _
    refine hK.out _ _ ⟨f0, f1, f2, f3, d0, d1⟩ (fun hHeld => ?_)
    clear hK K
    try simp only [Act.put, List.setIfInBounds_toArray, List.set_cons_zero, List.set_cons_succ]
    refine wpAnyH_ready (rs := [4]) (by kernel_rfl) (by simp) ?_
    refine AllReadyH.cons (o := Oper.mk _ _ _ _ _ _) rfl (fun K hK => ?_) AllReadyH.nil
    go_simp
    refine Calls.mono (HI.out _ _ _ (by exact SR.out.o0.rd)) ?_
    rintro e u2 ⟨av, cv, rfl, ho, hf, hb, _⟩
    have SR := mkHid (SR.out.own (re hb rfl rfl rfl rfl) ho hf)
    obtain ⟨f0, f1, f2, f3⟩ := cel4 SR.out.b4
    obtain ⟨d0, d1⟩ := cel2 SR.out.b5
    clear hb
    show K _ _
    refine hK.out _ _ ⟨f0, f1, f2, f3, d0, d1⟩ (fun hHeld => ?_)
    clear hK K
    try simp only [Act.put, List.setIfInBounds_toArray, List.set_cons_zero, List.set_cons_succ]
    refine wpAnyH_ready (rs := [6]) (by kernel_rfl) (by simp) ?_
    refine AllReadyH.cons (o := Oper.mk _ _ _ _ _ _) rfl (fun K hK => ?_) AllReadyH.nil
    obtain ⟨k0, k1, k2⟩ := cel3 SR.out.b0
    have kf := unfrozen SR.out.b0
    have hq3a : w.heap.size + 1 ≠ w17.heap.size := by have := (Array.getElem?_eq_some_iff.1 SRp.out.b3).1; omega
    have hq3b : w17.heap.size ≠ w.heap.size + 1 := fun e => hq3a e.symm
    have hq4a : w.heap.size ≠ w17.heap.size := by have := (Array.getElem?_eq_some_iff.1 SRp.out.b4).1; omega
    have hq4b : w17.heap.size ≠ w.heap.size := fun e => hq4a e.symm
    go_simp
    refine hK.out _ _ (by go_keep) (fun hHeld => ?_)
    clear hK K
    try simp only [Act.put, List.setIfInBounds_toArray, List.set_cons_zero, List.set_cons_succ]
    refine wpAnyH_done (by kernel_rfl) ?_ _
    have SF := mkHid (SR.out.wr3 (.slice av l2.length cv) (.int .i64 r2) (.int .i64 q2) SRp.out.below.size SRp.out.fresh SRp.out.freshR)
    go_wp2
    go_meet
    exact ⟨_, _, _, rfl, mkHid (SF.out.ownRow.lessO.same rfl rfl rfl rfl)⟩
  obtain ⟨P2, a12, c12, rfl, S12⟩ := hcut
  clear S17
  obtain ⟨k30h00, k30h01, k30h02⟩ := cel3 S12.out.b0
  obtain ⟨k30w00, k30w01, k30w02⟩ := cel3 S12.out.b3
  go_wp2_with fail
  refine (HE.out _ _ _ _ _ S12.out.r0 S12.out.r1).mono ?_
  rintro e w31 ⟨rfl, hb31⟩
  have S31 := mkHid (S12.out.next hb31)
  clear k30h00 k30h01 k30h02 k30w00 k30w01 k30w02
  clear hb31 S12 
  obtain ⟨k31g00, k31g01, k31g02⟩ := cel3 S31.out.b1
  go_wp2_with fail
  refine (HHG.out _ _ _ S31.out.o0.rd).mono ?_
  rintro e w32 ⟨rfl, hb32⟩
  have S32 := mkHid (S31.out.next hb32)
  clear k31g00 k31g01 k31g02
  clear hb32 S31 
  go_wp2
  go_ret
  exact ⟨rfl, S32.out.below⟩
end Go.Proofs.Ytfckgpmphcadeaa.drv
