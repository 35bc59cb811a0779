/-
  Drives that are drawn: (*l01Src).l08Drive: what it answers and leaves. Condition: the source lies in one block of its own.
-/
import Derived.Test.YtfckgpmphcadeaaZDrive8
import Derived.Deep.RegionHeld3
import Derived.Deep.DeepCutAuto
namespace Go.Proofs.Ytfckgpmphcadeaa.draw
open Go.RowKit Go.Joins
open Go.Proofs.Ytfckgpmphcadeaa.base Go.Proofs.Ytfckgpmphcadeaa.blk Go.Proofs.Ytfckgpmphcadeaa.aid Go.Proofs.Ytfckgpmphcadeaa.drv
open Go.Proofs.Ytfckgpmphcadeaa.row (Rd Own OwnV appSem app_fold)
open Go.Proofs.Ytfckgpmphcadeaa.rwStored (cs)
set_option linter.unusedVariables false
attribute [local go_sem ↓] app_fold

theorem two_string (w : World) (x y : Int) (b d : UInt8) (hx : x = (b.toNat : Int)) (hy : y = (d.toNat : Int)) : (convert 22 9 (.slice (some ⟨w.heap.size, 0, none⟩) 2 2)).run Try.prog (w.alloc (.cells #[.int .u8 x, .int .u8 y] 5)) = .ok (.string ⟨#[b, d]⟩) (w.alloc (.cells #[.int .u8 x, .int .u8 y] 5)) := by
  subst hx hy
  have h := run_convert_bytes_back (P := Try.prog) (w.alloc (.cells #[.int .u8 (b.toNat : Int), .int .u8 (d.toNat : Int)] 5)) 22 9 5 ⟨w.heap.size, 0, none⟩ 2 [b, d] Try.underlying22 Try.underlying5 Try.underlying9 (by
    intro j hj
    match j, hj with
    | 0, hj => simp [Addr.add]
    | 1, hj => simp [Addr.add])
  simpa using h
theorem small_snoc {l : List File} {x0 x1 : ByteArray} {x2 : Int} (h : Small l) (h0 : x0.size ≤ 1048576) (h1 : x1.size ≤ 1048576) : Small (l ++ [(x0, x1, x2)]) := small_app h (fun f hf => by simp at hf; subst hf; exact ⟨h0, h1⟩)

set_option maxRecDepth 100000 in
set_option maxHeartbeats 8000000 in
theorem drive_any (g : Nat) (w : World) (h : SrcAt w g) :
    Calls Try.prog 54 #[.pointer (some ⟨g, 0, none⟩)] w fun e w' => DrewDrive w g e w' := by
  have HN : Hid (∀ wx (m : Int), m ≤ 9223372036854775807 → SrcAt wx g → Calls Try.prog 63 #[.pointer (some ⟨g, 0, none⟩), .int .i64 m] wx fun e w' => Drew wx g m e w') := mkHid (fun wx m h1 h2 => n_any g m wx h1 h2)
  have HO : Hid (∀ wx (n : Int), n ≤ 9223372036854775807 → SrcAt wx g → Calls Try.prog 64 #[.pointer (some ⟨g, 0, none⟩), .int .i64 n] wx fun e w' => DrewBool wx g e w') := mkHid (fun wx n h1 h2 => one_any g n wx h1 h2)
  have HT : Hid (∀ wx (n : Nat), n ≤ 100000 → SrcAt wx g → Calls Try.prog 99 #[.pointer (some ⟨g, 0, none⟩), .int .i64 n] wx fun e w' => DrewText wx g n e w') := mkHid (fun wx n h1 h2 => bytes_any g n wx h1 h2)
  have HP : Hid (∀ wx, SrcAt wx g → Calls Try.prog 55 #[.pointer (some ⟨g, 0, none⟩)] wx fun e w' => DrewOp wx g e w') := mkHid (fun wx h2 => op_any g wx h2)
  have HD := mkHid (fun a c l r q n t x wx h1 h2 h3 h4 h5 h6 => do_post a c l r q n t x wx h1 h2 h3 h4 h5 h6)
  unfold DoPost at HD
  have hgl := h.lt
  have HS0 := mkHid (And.intro (h.below (below_alloc1 w (.cells #[.slice none 0 0, .int .i64 0] 25))) (And.intro (World.grownBy_alloc w (.cells #[.slice none 0 0, .int .i64 0] 25) (some g)) (blk_new w (.cells #[.slice none 0 0, .int .i64 0] 25) _ rfl)))
  have hsz0 : (w.alloc (.cells #[.slice none 0 0, .int .i64 0] 25)).heap.size = w.heap.size + 1 := by simp
  clear h
  go_enter Try.func54, Try.ntmps54
  go_wp2_with fail
  refine (HN.out _ 60 (by omega) HS0.out.1).mono ?_
  rintro e w1 ⟨r, rfl, hr0, hr1, _, hs1, hg1⟩
  have hr1' := hr1 (by omega)
  have hsz1 := hg1.size
  rw [hsz0] at hsz1
  have b1 := (hg1.block w.heap.size (by rw [hsz0]; omega) (by simp; omega)).trans HS0.out.2.2
  have S1 : Hid (Dv w g w1.heap.size [] (20 + r) none 0 (w1.alloc (.cells #[.slice none 0 0, .int .i64 (20 + r)] 25))) := mkHid ⟨hs1.below (below_alloc1 w1 _), grown_new (grown_trans HS0.out.2.1 hg1) ((below_alloc1 w1 _).mono (by omega)), blk_old b1 _, blk_new w1 _ _ rfl, World.ownsRow_nil _ _ _ _, hgl, by omega⟩
  have hd0 : driveB [] (20 + r) = true := by unfold driveB filesB drv.bytes; simp; omega
  have hb0 : -1000000 ≤ 20 + r ∧ 20 + r ≤ 1000000 := by omega
  have hDl : w.heap.size < w1.heap.size := by omega
  clear hs1 hg1 hr1 HS0 hsz0 hsz1 b1
  go_wp2_with fail
  refine (HN.out _ 9 (by omega) S1.out.src).mono ?_
  rintro e w2 ⟨k, rfl, hk0, hk1, _, hs2, hg2⟩
  have hk1' := hk1 (by omega)
  obtain ⟨k, rfl⟩ := Int.eq_ofNat_of_zero_le hk0
  have S2 := mkHid (S1.out.draw hs2 hg2)
  have hk9 : k ≤ 9 := by omega
  clear hs2 hg2 hk1 hk0 hk1' S1
  generalize w1.heap.size = D at *
  go_wp2_with fail
  go_loopw [4, 5] (fun i x wr => ∃ (k : Nat) (l : List File) (r : Int) (a : Option Addr) (c : Nat), i = .int .i64 k ∧ k ≤ 9 ∧ Hid (driveB l r = true) ∧ Hid (Dv w g D l r a c wr))
    (fun i _ _ => (intOf i).toNat)
  case atStart => exact ⟨k, [], _, none, 0, rfl, hk9, mkHid hd0, S2⟩
  case round =>
    clear S2 hd0 hb0 hk9 hr0 hr1'
    obtain ⟨k, l, r, a, c, rfl, hk9, hdr, hS⟩ := hrel
    obtain ⟨c0, c1⟩ := cel2 hS.out.b1
    by_cases hk : 0 < k
    · have hki : 0 < (k : Int) := by omega
      have hki2 : (k : Int) ≤ 9 := by omega
      have HD1 := mkHid (fun q n t x wx h2 h3 h4 h5 h6 => HD.out a c l r q n t x wx hdr.out h2 h3 h4 h5 h6)
      have hap := mkHid hS.out.old
      have hDw := hS.out.lt
      go_wp2_with fail
      go_cut [5] (fun x wx => ∃ X a5 c5 l5 r5 q5, x = .pointer (some ⟨X, 0, none⟩) ∧ Hid (q5 = 0 → driveB l5 r5 = true) ∧ Hid (Xs w g D l r a c X a5 c5 l5 r5 q5 wx))
      case first =>
        have SR := hS
        refine wp_region_held_drew (S := fun w' => w'.cell? ⟨D, 0, none⟩ = some (.slice a l.length c) ∧ w'.cell? ⟨D, 1, none⟩ = some (.int .i64 r)) (by kernel_rfl) (by exact ⟨c0, c1⟩) (fun hHeld => ?_)
        refine wpAnyH_take (i := 0) (oi := Oper.mk _ _ _ _ _ _) (v := ?_) rfl (by kernel_rfl) (by kernel_rfl) (by kernel_rfl) (fun _ _ _ h => h) (Or.inl ⟨by rfl, ?_⟩) (by assumption) ?_
        rotate_left
        · intro w hSw
          try dsimp only at hSw
          go_simp
          all_goals with_reducible rfl
        try simp only [Act.put, List.setIfInBounds_toArray, List.set_cons_zero, List.set_cons_succ]
        refine wpAnyH_take (i := 1) (oi := Oper.mk _ _ _ _ _ _) (v := ?_) rfl (by kernel_rfl) (by kernel_rfl) (by kernel_rfl) (fun _ _ _ h => h) (Or.inl ⟨by rfl, ?_⟩) (by assumption) ?_
        rotate_left
        · intro w hSw
          try dsimp only at hSw
          go_simp
          all_goals with_reducible rfl
        try simp only [Act.put, List.setIfInBounds_toArray, List.set_cons_zero, List.set_cons_succ]
        refine wpAnyH_ready (rs := [2, 4]) (by kernel_rfl) (by simp) ?_
        refine AllReadyH.cons (o := Oper.mk _ _ _ _ _ _) rfl (fun K hK => ?_) ?_
        · skip
          go_simp
          refine Calls.mono (HP.out _ (by exact SR.out.src)) ?_
          rintro e u0 ⟨ok, on, ot, ox, rfl, hon, hot, hox, hs4, hg4⟩
          have hg4 := grew_from (w := wr) hg4 rfl rfl rfl rfl
          have SR := mkHid (SR.out.draw hs4 hg4)
          have hu0 : wr.heap.size ≤ u0.heap.size := by have := hg4.size; first | omega | (simp at this; omega)
          obtain ⟨c0, c1⟩ := cel2 SR.out.b1
          clear hs4 hg4
          show K _ _
          refine hK.out _ _ ⟨c0, c1⟩ (fun hHeld => ?_)
          clear hK K
          try simp only [Act.put, List.setIfInBounds_toArray, List.set_cons_zero, List.set_cons_succ]
          refine wpAnyH_ready (rs := [3, 4]) (by kernel_rfl) (by simp) ?_
          refine AllReadyH.cons (o := Oper.mk _ _ _ _ _ _) rfl (fun K hK => ?_) ?_
          · skip
            go_simp
            refine Calls.mono (HD1.out _ _ _ _ _ SR.out.cap hon hot hox (by exact SR.out.ownV.rd)) ?_
            rintro e u1 ⟨a5, c5, l5, r5, q5, rfl, hq5, ho5, hn5, hb5, hc5, hm5⟩
            have hb5 := re (w := u0) hb5 rfl rfl rfl rfl
            have hlw := SR.out.lt
            have hu1 : u0.heap.size ≤ u1.heap.size := by have := hb5.size; first | omega | (simp at this; omega)
            have SR := mkHid (SR.out.next hb5)
            have hn5 : Hid (∀ b o s, a5 = some ⟨b, o, s⟩ → u0.heap.size ≤ b) := mkHid (by exact hn5)
            have h5 := mkHid (Room.owns (base := D + 1) hm5 ho5 hc5 (fun b o s e => by have := hn5.out b o s e; omega))
            obtain ⟨c0, c1⟩ := cel2 SR.out.b1
            clear hb5 ho5 hc5 hm5 hlw
            show K _ _
            refine hK.out _ _ ⟨c0, c1⟩ (fun hHeld => ?_)
            clear hK K
            try simp only [Act.put, List.setIfInBounds_toArray, List.set_cons_zero, List.set_cons_succ]
            refine wpAnyH_ready (rs := [4]) (by kernel_rfl) (by simp) ?_
            refine AllReadyH.cons (o := Oper.mk _ _ _ _ _ _) rfl (fun K hK => ?_) AllReadyH.nil
            have SRp := SR
            have h5p := h5
            have kx := blk_new u1 (.cells #[.slice none 0 0, .int .i64 0, .int .i64 0] 31) _ rfl
            have SR := mkHid (SR.out.next (below_alloc1 u1 (.cells #[.slice none 0 0, .int .i64 0, .int .i64 0] 31)))
            obtain ⟨c0, c1⟩ := cel2 SR.out.b1
            have h5 := mkHid (h5.out.alloc (.cells #[.slice none 0 0, .int .i64 0, .int .i64 0] 31))
            have hold := mkHid (owns_lt h5.out)
            go_simp
            refine hK.out _ _ ⟨c0, c1⟩ (fun hHeld => ?_)
            clear hK K
            try simp only [Act.put, List.setIfInBounds_toArray, List.set_cons_zero, List.set_cons_succ]
            refine wpAnyH_ready (rs := [5]) (by kernel_rfl) (by simp) ?_
            refine AllReadyH.cons (o := Oper.mk _ _ _ _ _ _) rfl (fun K hK => ?_) AllReadyH.nil
            obtain ⟨k0, k1, k2⟩ := cel3 kx
            have kf := unfrozen kx
            have hqa : D ≠ u1.heap.size := by omega
            have hqb : u1.heap.size ≠ D := fun e => hqa e.symm
            go_simp
            refine hK.out _ _ (by go_keep) (fun hHeld => ?_)
            clear hK K
            try simp only [Act.put, List.setIfInBounds_toArray, List.set_cons_zero, List.set_cons_succ]
            refine wpAnyH_done (by kernel_rfl) ?_ _
            have SX := mkHid (xs_alloc (r5 := r5) (q5 := q5) SRp.out h5p.out)
            go_wp2
            go_meet
            exact ⟨_, a5, c5, l5, r5, q5, rfl, mkHid hq5, mkHid (SX.out.same rfl rfl rfl rfl)⟩
          refine AllReadyH.cons (o := Oper.mk _ _ _ _ _ _) rfl (fun K hK => ?_) AllReadyH.nil
          have kx := blk_new u0 (.cells #[.slice none 0 0, .int .i64 0, .int .i64 0] 31) _ rfl
          have SR := mkHid (SR.out.next (below_alloc1 u0 (.cells #[.slice none 0 0, .int .i64 0, .int .i64 0] 31)))
          obtain ⟨c0, c1⟩ := cel2 SR.out.b1
          go_simp
          refine hK.out _ _ ⟨c0, c1⟩ (fun hHeld => ?_)
          clear hK K
          try simp only [Act.put, List.setIfInBounds_toArray, List.set_cons_zero, List.set_cons_succ]
          refine wpAnyH_ready (rs := [3]) (by kernel_rfl) (by simp) ?_
          refine AllReadyH.cons (o := Oper.mk _ _ _ _ _ _) rfl (fun K hK => ?_) AllReadyH.nil
          go_simp
          refine Calls.mono (HD1.out _ _ _ _ _ SR.out.cap hon hot hox (by exact SR.out.ownV.rd)) ?_
          rintro e u1 ⟨a5, c5, l5, r5, q5, rfl, hq5, ho5, hn5, hb5, hc5, hm5⟩
          have hb5 := re (w := (u0.alloc (.cells #[.slice none 0 0, .int .i64 0, .int .i64 0] 31))) hb5 rfl rfl rfl rfl
          have kx := blk_below kx hb5
          have hlw := SR.out.lt
          have hu1 : u0.heap.size ≤ u1.heap.size := by have := hb5.size; first | omega | (simp at this; omega)
          have SR := mkHid (SR.out.next hb5)
          have hn5 : Hid (∀ b o s, a5 = some ⟨b, o, s⟩ → (u0.alloc (.cells #[.slice none 0 0, .int .i64 0, .int .i64 0] 31)).heap.size ≤ b) := mkHid (by exact hn5)
          have h5 := mkHid (Room.owns (base := D + 1) hm5 ho5 hc5 (fun b o s e => by have := hn5.out b o s e; omega))
          obtain ⟨c0, c1⟩ := cel2 SR.out.b1
          clear hb5 ho5 hc5 hm5 hlw
          show K _ _
          refine hK.out _ _ ⟨c0, c1⟩ (fun hHeld => ?_)
          clear hK K
          try simp only [Act.put, List.setIfInBounds_toArray, List.set_cons_zero, List.set_cons_succ]
          refine wpAnyH_ready (rs := [5]) (by kernel_rfl) (by simp) ?_
          refine AllReadyH.cons (o := Oper.mk _ _ _ _ _ _) rfl (fun K hK => ?_) AllReadyH.nil
          obtain ⟨k0, k1, k2⟩ := cel3 kx
          have kf := unfrozen kx
          have hqa : D ≠ u0.heap.size := by omega
          have hqb : u0.heap.size ≠ D := fun e => hqa e.symm
          go_simp
          refine hK.out _ _ (by go_keep) (fun hHeld => ?_)
          clear hK K
          try simp only [Act.put, List.setIfInBounds_toArray, List.set_cons_zero, List.set_cons_succ]
          refine wpAnyH_done (by kernel_rfl) ?_ _
          have SX := mkHid (xs_store (r5 := r5) (q5 := q5) SR.out kx (by omega) (fun b o s e => by have := hap.out b o s e; omega) h5.out (fun b o s e => by have := hn5.out b o s e; simp at this; omega))
          go_wp2
          go_meet
          exact ⟨_, a5, c5, l5, r5, q5, rfl, mkHid hq5, mkHid (SX.out.same rfl rfl rfl rfl)⟩
        refine AllReadyH.cons (o := Oper.mk _ _ _ _ _ _) rfl (fun K hK => ?_) AllReadyH.nil
        have kx := blk_new wr (.cells #[.slice none 0 0, .int .i64 0, .int .i64 0] 31) _ rfl
        have SR := mkHid (SR.out.next (below_alloc1 wr (.cells #[.slice none 0 0, .int .i64 0, .int .i64 0] 31)))
        obtain ⟨c0, c1⟩ := cel2 SR.out.b1
        go_simp
        refine hK.out _ _ ⟨c0, c1⟩ (fun hHeld => ?_)
        clear hK K
        try simp only [Act.put, List.setIfInBounds_toArray, List.set_cons_zero, List.set_cons_succ]
        refine wpAnyH_ready (rs := [2]) (by kernel_rfl) (by simp) ?_
        refine AllReadyH.cons (o := Oper.mk _ _ _ _ _ _) rfl (fun K hK => ?_) AllReadyH.nil
        go_simp
        refine Calls.mono (HP.out _ (by exact SR.out.src)) ?_
        rintro e u0 ⟨ok, on, ot, ox, rfl, hon, hot, hox, hs4, hg4⟩
        have hg4 := grew_from (w := (wr.alloc (.cells #[.slice none 0 0, .int .i64 0, .int .i64 0] 31))) hg4 rfl rfl rfl rfl
        have kx := (hg4.block _ (Array.getElem?_eq_some_iff.1 kx).1 (by simp; omega)).trans kx
        have SR := mkHid (SR.out.draw hs4 hg4)
        have hu0 : wr.heap.size + 1 ≤ u0.heap.size := by have := hg4.size; first | omega | (simp at this; omega)
        obtain ⟨c0, c1⟩ := cel2 SR.out.b1
        clear hs4 hg4
        show K _ _
        refine hK.out _ _ ⟨c0, c1⟩ (fun hHeld => ?_)
        clear hK K
        try simp only [Act.put, List.setIfInBounds_toArray, List.set_cons_zero, List.set_cons_succ]
        refine wpAnyH_ready (rs := [3]) (by kernel_rfl) (by simp) ?_
        refine AllReadyH.cons (o := Oper.mk _ _ _ _ _ _) rfl (fun K hK => ?_) AllReadyH.nil
        go_simp
        refine Calls.mono (HD1.out _ _ _ _ _ SR.out.cap hon hot hox (by exact SR.out.ownV.rd)) ?_
        rintro e u1 ⟨a5, c5, l5, r5, q5, rfl, hq5, ho5, hn5, hb5, hc5, hm5⟩
        have hb5 := re (w := u0) hb5 rfl rfl rfl rfl
        have kx := blk_below kx hb5
        have hlw := SR.out.lt
        have hu1 : u0.heap.size ≤ u1.heap.size := by have := hb5.size; first | omega | (simp at this; omega)
        have SR := mkHid (SR.out.next hb5)
        have hn5 : Hid (∀ b o s, a5 = some ⟨b, o, s⟩ → u0.heap.size ≤ b) := mkHid (by exact hn5)
        have h5 := mkHid (Room.owns (base := D + 1) hm5 ho5 hc5 (fun b o s e => by have := hn5.out b o s e; omega))
        obtain ⟨c0, c1⟩ := cel2 SR.out.b1
        clear hb5 ho5 hc5 hm5 hlw
        show K _ _
        refine hK.out _ _ ⟨c0, c1⟩ (fun hHeld => ?_)
        clear hK K
        try simp only [Act.put, List.setIfInBounds_toArray, List.set_cons_zero, List.set_cons_succ]
        refine wpAnyH_ready (rs := [5]) (by kernel_rfl) (by simp) ?_
        refine AllReadyH.cons (o := Oper.mk _ _ _ _ _ _) rfl (fun K hK => ?_) AllReadyH.nil
        obtain ⟨k0, k1, k2⟩ := cel3 kx
        have kf := unfrozen kx
        have hqa : D ≠ wr.heap.size := by omega
        have hqb : wr.heap.size ≠ D := fun e => hqa e.symm
        go_simp
        refine hK.out _ _ (by go_keep) (fun hHeld => ?_)
        clear hK K
        try simp only [Act.put, List.setIfInBounds_toArray, List.set_cons_zero, List.set_cons_succ]
        refine wpAnyH_done (by kernel_rfl) ?_ _
        have SX := mkHid (xs_store (r5 := r5) (q5 := q5) SR.out kx (by omega) (fun b o s e => by have := hap.out b o s e; omega) h5.out (fun b o s e => by have := hn5.out b o s e; omega))
        go_wp2
        go_meet
        exact ⟨_, a5, c5, l5, r5, q5, rfl, mkHid hq5, mkHid (SX.out.same rfl rfl rfl rfl)⟩
      clear c0 c1 hS HD1 hDw
      obtain ⟨X, a5, c5, l5, r5, q5, rfl, hq5, SX⟩ := hcut
      obtain ⟨k0, k1, k2⟩ := cel3 SX.out.bx
      obtain ⟨c0, c1⟩ := cel2 SX.out.dv.b1
      have cf := unfrozen SX.out.dv.b1
      by_cases hq : q5 = 0
      · subst hq
        have hd5 := mkHid (hq5.out rfl)
        have N5 := mkHid (SX.out.dv.put r5 SX.out.row)
        clear SX
        cases a5 with
        | none =>
          go_wp2
          exact ⟨⟨k - 1, l5, r5, none, c5, by go_num, by omega, hd5, N5⟩, by simp [intOf]; omega⟩
        | some ad =>
          go_wp2
          exact ⟨⟨k - 1, l5, r5, some ad, c5, by go_num, by omega, hd5, N5⟩, by simp [intOf]; omega⟩
      · have N5 := mkHid SX.out.dv
        clear SX
        go_wp2
        exact ⟨⟨k - 1, l, r, a, c, by go_num, by omega, hdr, N5⟩, by simp [intOf]; omega⟩
    · obtain rfl : k = 0 := by omega
      obtain ⟨hl60, hr0, hr1, _, _⟩ := driveB_parts hdr.out
      have hsm := mkHid (right_small hdr.out)
      have hne1 : ¬ D = w.heap.size := by omega
      have hne2 : ¬ w.heap.size = D := by omega
      go_wp2_with fail
      refine (HO.out _ 15 (by omega) hS.out.src).mono ?_
      rintro e w4 ⟨b, rfl, hs4, hg4⟩
      have S4 := mkHid (hS.out.draw hs4 hg4)
      clear hs4 hg4 hS c0 c1 HP HD
      cases b with
      | false =>
        obtain ⟨c0, c1⟩ := cel2 S4.out.b1
        obtain ⟨d0, d1⟩ := cel2 S4.out.b0
        have df := unfrozen S4.out.b0
        have HF := mkHid (S4.out.fin (by omega) hsm.out (by omega) (by omega) (.slice (a) (l.length) c) (.int .i64 r))
        clear S4
        cases a with
        | none =>
          go_wp2
          exact bodyPost_ret (v := .agg #[.slice (none) (l.length) c, .int .i64 r]) (by simp [results, Try.results54, go_sem, d0, d1]) rfl HF.out
        | some ad =>
          go_wp2
          exact bodyPost_ret (v := .agg #[.slice (some ad) (l.length) c, .int .i64 r]) (by simp [results, Try.results54, go_sem, d0, d1]) rfl HF.out
      | true =>
        obtain ⟨c0, c1⟩ := cel2 S4.out.b1
        go_wp2_with fail
        refine (HN.out _ 5 (by omega) S4.out.src).mono ?_
        rintro e w5 ⟨q, rfl, hq0, hq1, _, hs5, hg5⟩
        have hq1' := hq1 (by omega)
        have S5 := mkHid (S4.out.draw hs5 hg5)
        clear hs5 hg5 S4 hq1 c0 c1
        obtain ⟨c0, c1⟩ := cel2 S5.out.b1
        have cf := unfrozen S5.out.b1
        have hDl5 := S5.out.lt
        rcases (show q = 0 ∨ q = 1 ∨ q = 2 ∨ q = 3 ∨ q = 4 by omega) with rfl | rfl | rfl | rfl | rfl
        · have S6 := mkHid (S5.out.next (below_alloc1 w5 (.cells #[.int .i64 (-1), .int .i64 0, .int .i64 100000, .int .i64 100001] 2)))
          have k6 := blk_new w5 (.cells #[.int .i64 (-1), .int .i64 0, .int .i64 100000, .int .i64 100001] 2) _ rfl
          go_wp2_with fail
          refine (HN.out _ 4 (by omega) S6.out.src).mono ?_
          rintro e w7 ⟨z, rfl, hz0, hz1, _, hs7, hg7⟩
          have hz1' := hz1 (by omega)
          obtain ⟨z, rfl⟩ := Int.eq_ofNat_of_zero_le hz0
          have hg0 := S5.out.hg
          have k7 := (hg7.block w5.heap.size (by simp) (by simp; omega)).trans k6
          have S7 := mkHid (S6.out.draw hs7 hg7)
          obtain ⟨y, hy, hy0, hy1⟩ : ∃ y : Int, w7.cell? ⟨w5.heap.size, z, none⟩ = some (.int .i64 y) ∧ -1 ≤ y ∧ y ≤ 100001 := by
            rcases (show z = 0 ∨ z = 1 ∨ z = 2 ∨ z = 3 by omega) with rfl | rfl | rfl | rfl
            · exact ⟨-1, by rw [cell_of_row _ _ _ _ _ _ k7]; rfl, by omega, by omega⟩
            · exact ⟨0, by rw [cell_of_row _ _ _ _ _ _ k7]; rfl, by omega, by omega⟩
            · exact ⟨100000, by rw [cell_of_row _ _ _ _ _ _ k7]; rfl, by omega, by omega⟩
            · exact ⟨100001, by rw [cell_of_row _ _ _ _ _ _ k7]; rfl, by omega, by omega⟩
          clear hs7 hg7 hz1 S5 S6 k6 k7 c0 c1 cf
          obtain ⟨b0, b1⟩ := cel2 S7.out.b1
          have cf := unfrozen S7.out.b1
          have S8 := mkHid (S7.out.room y)
          clear S7
          obtain ⟨c0, c1⟩ := cel2 S8.out.b1
          obtain ⟨d0, d1⟩ := cel2 S8.out.b0
          have df := unfrozen S8.out.b0
          have HF := mkHid (S8.out.fin (by omega) hsm.out (by omega) (by omega) (.slice (a) (l.length) c) (.int .i64 y))
          clear S8
          cases a with
          | none =>
            go_wp2
            exact bodyPost_ret (v := .agg #[.slice (none) (l.length) c, .int .i64 y]) (by simp [results, Try.results54, go_sem, d0, d1]) rfl HF.out
          | some ad =>
            go_wp2
            exact bodyPost_ret (v := .agg #[.slice (some ad) (l.length) c, .int .i64 y]) (by simp [results, Try.results54, go_sem, d0, d1]) rfl HF.out
        · obtain ⟨q2, c2, w6, hrun, hb6, S6⟩ := S5.out.app ⟨#[97]⟩ ⟨#[]⟩ 0 (by omega)
          have S6 := mkHid S6
          have cf6 := unfrozen hb6
          obtain ⟨m0, m1⟩ := cel2 hb6
          have hlen : (l ++ [((⟨#[97]⟩ : ByteArray), (⟨#[]⟩ : ByteArray), (0 : Int))]).length = l.length + 1 := by simp
          clear S5 hb6
          obtain ⟨b0, b1⟩ := cel2 S6.out.b1
          obtain ⟨d0, d1⟩ := cel2 S6.out.b0
          have df := unfrozen S6.out.b0
          have HF := mkHid (S6.out.fin (by simp; omega) (small_snoc hsm.out (by show 1 ≤ 1048576; omega) (by show 0 ≤ 1048576; omega)) (by omega) (by omega) (.slice (some ⟨q2, 0, none⟩) (l.length + 1) c2) (.int .i64 r))
          rw [hlen] at HF b0
          clear S6
          go_wp2
          exact bodyPost_ret (v := .agg #[.slice (some ⟨q2, 0, none⟩) (l.length + 1) c2, .int .i64 r]) (by simp [results, Try.results54, go_sem, d0, d1]) rfl HF.out
        · by_cases hl0 : l.length = 0
          · obtain rfl : l = [] := List.eq_nil_of_length_eq_zero hl0
            have hlen : ([] : List File).length = 0 := rfl
            clear c0 c1
            obtain ⟨c0, c1⟩ := cel2 S5.out.b1
            obtain ⟨d0, d1⟩ := cel2 S5.out.b0
            have df := unfrozen S5.out.b0
            have HF := mkHid (S5.out.fin (by simp) hsm.out (by omega) (by omega) (.slice (a) (0) c) (.int .i64 r))
            rw [hlen] at HF c0
            clear S5
            cases a with
            | none =>
              go_wp2
              exact bodyPost_ret (v := .agg #[.slice (none) (0) c, .int .i64 r]) (by simp [results, Try.results54, go_sem, d0, d1]) rfl HF.out
            | some ad =>
              go_wp2
              exact bodyPost_ret (v := .agg #[.slice (some ad) (0) c, .int .i64 r]) (by simp [results, Try.results54, go_sem, d0, d1]) rfl HF.out
          · have hl0i : 0 < (l.length : Int) := by omega
            obtain ⟨qa, rfl, hOw⟩ := own_some S5.out.ownV (by omega)
            obtain ⟨f, hf⟩ : ∃ f, l[0]? = some f := ⟨_, List.getElem?_eq_getElem (by omega)⟩
            have hqa := S5.out.new qa 0 none rfl
            have hqD : ¬ qa = D := by omega
            have hDq : ¬ D = qa := by omega
            clear hOw
            go_wp2_with fail
            go_region_held3 (fun w' => w'.cell? ⟨D, 0, none⟩ = some (.slice (some ⟨qa, 0, none⟩) l.length c)) (go_keep)
              (first
               | (go_at_call 63; refine Calls.mono (HN.out _ 15 (by omega) (by exact S5.out.src)) ?_; rintro e w6 ⟨z, rfl, hz0, hz1, _, hs6, hg6⟩; have S6 := mkHid (S5.out.draw hs6 (grew_from hg6 rfl rfl rfl rfl)); have hz1' := hz1 (by omega); obtain ⟨b0, b1⟩ := cel2 S6.out.b1; have qf := S6.out.row.frozenAt 2; have hw : IntKind.i64.wrap (z - 1) = z - 1 := (by rw [IntKind.wrap_i64]; omega); have qc := (Own.owns S6.out.row).cell (i := 2) (by exact (rwStored.cs_at _ _ _ hf).2.2); clear hs6 hg6 hz1))
            have S7 := mkHid (S6.out.first rfl hf (z - 1))
            have hlen : (l.set 0 (f.1, f.2.1, z - 1)).length = l.length := by simp
            have hsm2 := mkHid (small_set (f := (f.1, f.2.1, z - 1)) hsm.out (hsm.out f (List.mem_of_getElem? hf)) 0)
            clear S5 S6 c0 c1 b0 b1 cf qf qc
            obtain ⟨c0, c1⟩ := cel2 S7.out.b1
            obtain ⟨d0, d1⟩ := cel2 S7.out.b0
            have df := unfrozen S7.out.b0
            have HF := mkHid (S7.out.fin (by simp; omega) hsm2.out (by omega) (by omega) (.slice (some ⟨qa, 0, none⟩) (l.length) c) (.int .i64 r))
            rw [hlen] at HF c0
            clear S7
            go_wp2
            exact bodyPost_ret (v := .agg #[.slice (some ⟨qa, 0, none⟩) (l.length) c, .int .i64 r]) (by simp [results, Try.results54, go_sem, d0, d1]) rfl HF.out
        · have S6 := mkHid (S5.out.room 100000)
          clear S5
          go_wp2_with fail
          go_loopw [6] (fun i wr => ∃ (j : Nat) (l' : List File) (a' : Option Addr) (c' : Nat), i = .int .i64 j ∧ j ≤ l'.length ∧ l'.length ≤ 61 ∧ Hid (Small l') ∧ Hid (Dv w g D l' 100000 a' c' wr))
            (fun i _ => 62 - (intOf i).toNat)
          case atStart => exact ⟨0, l, a, c, rfl, Nat.zero_le _, by omega, hsm, S6⟩
          case round =>
            clear S6 c0 c1 cf
            obtain ⟨j, l', a', c', rfl, hj, hl61, hsm', hS'⟩ := hrel
            obtain ⟨c0, c1⟩ := cel2 hS'.out.b1
            have hji : (j : Int) ≤ 61 := by omega
            have hli : (l'.length : Int) ≤ 61 := by omega
            go_wp2_with fail
            go_region_held3 (fun w' => w'.cell? ⟨D, 0, none⟩ = some (.slice a' l'.length c')) (go_keep)
              (first
               | (go_at_call 63; refine Calls.mono (HN.out _ 3 (by omega) (by exact hS'.out.src)) ?_; rintro e w6 ⟨z, rfl, hz0, hz1, _, hs6, hg6⟩; have S6 := mkHid (hS'.out.draw hs6 (grew_from hg6 rfl rfl rfl rfl)); have hz1' := hz1 (by omega); obtain ⟨b0, b1⟩ := cel2 S6.out.b1; have hw : IntKind.i64.wrap (59 + z) = 59 + z := (by rw [IntKind.wrap_i64]; omega); clear hs6 hg6 hz1))
            clear c0 c1 hS' b0 b1
            obtain ⟨c0, c1⟩ := cel2 S6.out.b1
            by_cases hlt : (l'.length : Int) < 59 + z
            · obtain ⟨b, hbv⟩ : ∃ b : UInt8, b = UInt8.ofNat (97 + j / 10) := ⟨_, rfl⟩
              obtain ⟨d, hdv⟩ : ∃ d : UInt8, d = UInt8.ofNat (48 + j % 10) := ⟨_, rfl⟩
              have hbn : 97 + (j : Int) / 10 = (b.toNat : Int) := by rw [hbv, toNat_ofNat (by omega)]; omega
              have hdn : 48 + (j : Int) % 10 = (d.toNat : Int) := by rw [hdv, toNat_ofNat (by omega)]; omega
              have hconv := two_string w6 _ _ b d hbn hdn
              have hzy : (⟨#[122]⟩ : ByteArray).size + (⟨#[b, d]⟩ : ByteArray).size ≤ 9223372036854775807 := by show 1 + 2 ≤ _; omega
              have hadd := fun wx => run_string_add_sum (P := Try.prog) wx ⟨#[122]⟩ ⟨#[b, d]⟩ hzy
              have S7 := mkHid (S6.out.next (below_alloc1 w6 (.cells #[.int .u8 (97 + (j : Int) / 10), .int .u8 (48 + (j : Int) % 10)] 5)))
              obtain ⟨q2, c2, w8, hrun, hb8, S8⟩ := S7.out.app ((⟨#[122]⟩ : ByteArray) ++ (⟨#[b, d]⟩ : ByteArray)) ⟨#[]⟩ 0 (by omega)
              have hlen : (l' ++ [((⟨#[122]⟩ : ByteArray) ++ (⟨#[b, d]⟩ : ByteArray), (⟨#[]⟩ : ByteArray), (0 : Int))]).length = l'.length + 1 := by simp
              have hzz : (w6.alloc (.cells #[.int .u8 (97 + (j : Int) / 10), .int .u8 (48 + (j : Int) % 10)] 5)).heap.size = w6.heap.size + 1 := by simp
              rw [hzz] at hrun
              have cf8 := unfrozen hb8
              obtain ⟨m0, m1⟩ := cel2 hb8
              have S8 := mkHid S8
              have hsm8 := mkHid (small_snoc (x0 := (⟨#[122]⟩ : ByteArray) ++ (⟨#[b, d]⟩ : ByteArray)) (x1 := ⟨#[]⟩) (x2 := 0) hsm'.out (by rw [ByteArray.size_append]; show 1 + 2 ≤ 1048576; omega) (by show 0 ≤ 1048576; omega))
              clear S6 S7 hb8 hbv hdv hbn hdn hzy
              go_wp2
              exact ⟨⟨j + 1, _, some ⟨q2, 0, none⟩, c2, by go_num, by rw [hlen]; omega, by rw [hlen]; omega, hsm8, S8⟩, by simp [intOf]; omega⟩
            · obtain ⟨c0, c1⟩ := cel2 S6.out.b1
              obtain ⟨d0, d1⟩ := cel2 S6.out.b0
              have df := unfrozen S6.out.b0
              have HF := mkHid (S6.out.fin (by omega) hsm'.out (by omega) (by omega) (.slice (a') (l'.length) c') (.int .i64 100000))
              clear S6
              cases a' with
              | none =>
                go_wp2
                exact bodyPost_ret (v := .agg #[.slice (none) (l'.length) c', .int .i64 100000]) (by simp [results, Try.results54, go_sem, d0, d1]) rfl HF.out
              | some ad =>
                go_wp2
                exact bodyPost_ret (v := .agg #[.slice (some ad) (l'.length) c', .int .i64 100000]) (by simp [results, Try.results54, go_sem, d0, d1]) rfl HF.out
        · go_wp2_with fail
          refine wp_region_held_drew (S := fun _ => True) (by kernel_rfl) (by exact trivial) (fun hHeld => ?_)
          refine wpAnyH_take (i := 0) (oi := Oper.mk _ _ _ _ _ _) (v := ?_) rfl (by kernel_rfl) (by kernel_rfl) (by kernel_rfl) (fun _ _ _ h => h) (Or.inl ⟨by rfl, ?_⟩) (by assumption) ?_
          rotate_left
          · intro w hSw
            try dsimp only at hSw
            go_simp
            all_goals with_reducible rfl
          try simp only [Act.put, List.setIfInBounds_toArray, List.set_cons_zero, List.set_cons_succ]
          refine wpAnyH_take (i := 2) (oi := Oper.mk _ _ _ _ _ _) (v := ?_) rfl (by kernel_rfl) (by kernel_rfl) (by kernel_rfl) (fun _ _ _ h => h) (Or.inl ⟨by rfl, ?_⟩) (by assumption) ?_
          rotate_left
          · intro w hSw
            try dsimp only at hSw
            go_simp
            all_goals with_reducible rfl
          try simp only [Act.put, List.setIfInBounds_toArray, List.set_cons_zero, List.set_cons_succ]
          refine wpAnyH_ready (rs := [1, 3]) (by kernel_rfl) (by simp) ?_
          refine AllReadyH.cons (o := Oper.mk _ _ _ _ _ _) rfl (fun K hK => ?_) ?_
          · skip
            have lc := (cel2 S5.out.b1).1
            go_simp
            refine hK.out _ _ trivial (fun hHeld => ?_)
            clear hK K
            try simp only [Act.put, List.setIfInBounds_toArray, List.set_cons_zero, List.set_cons_succ]
            refine wpAnyH_ready (rs := [3]) (by kernel_rfl) (by simp) ?_
            refine AllReadyH.cons (o := Oper.mk _ _ _ _ _ _) rfl (fun K hK => ?_) AllReadyH.nil
            go_simp
            refine Calls.mono (HT.out _ 60 (by omega) (by exact S5.out.src)) ?_
            rintro e w6 ⟨t6, rfl, ht6, hs6, hg6⟩
            have S6 := mkHid (S5.out.draw hs6 (grew_from hg6 rfl rfl rfl rfl))
            obtain ⟨q2, c2, w8, hrun, hb8, S8⟩ := S6.out.app ⟨#[122, 122]⟩ t6 0 (by omega)
            have S8 := mkHid S8
            clear hs6 hg6
            show K _ _
            refine hK.out _ _ trivial (fun hHeld => ?_)
            clear hK K
            try simp only [Act.put, List.setIfInBounds_toArray, List.set_cons_zero, List.set_cons_succ]
            refine wpAnyH_take (i := 4) (oi := Oper.mk _ _ _ _ _ _) (v := ?_) rfl (by kernel_rfl) (by kernel_rfl) (by kernel_rfl) (fun _ _ _ h => h) (Or.inl ⟨by rfl, ?_⟩) (by assumption) ?_
            rotate_left
            · intro w hSw
              try dsimp only at hSw
              go_simp
              all_goals with_reducible rfl
            try simp only [Act.put, List.setIfInBounds_toArray, List.set_cons_zero, List.set_cons_succ]
            refine wpAnyH_ready (rs := [5]) (by kernel_rfl) (by simp) ?_
            refine AllReadyH.cons (o := Oper.mk _ _ _ _ _ _) rfl (fun K hK => ?_) AllReadyH.nil
            go_simp
            refine hK.out _ _ trivial (fun hHeld => ?_)
            clear hK K
            try simp only [Act.put, List.setIfInBounds_toArray, List.set_cons_zero, List.set_cons_succ]
            refine wpAnyH_ready (rs := [6]) (by kernel_rfl) (by simp) ?_
            refine AllReadyH.cons (o := Oper.mk _ _ _ _ _ _) rfl (fun K hK => ?_) AllReadyH.nil
            go_simp
            refine hK.out _ _ trivial (fun hHeld => ?_)
            clear hK K
            try simp only [Act.put, List.setIfInBounds_toArray, List.set_cons_zero, List.set_cons_succ]
            refine wpAnyH_take (i := 7) (oi := Oper.mk _ _ _ _ _ _) (v := ?_) rfl (by kernel_rfl) (by kernel_rfl) (by kernel_rfl) (fun _ _ _ h => h) (Or.inl ⟨by rfl, ?_⟩) (by assumption) ?_
            rotate_left
            · intro w hSw
              try dsimp only at hSw
              go_simp
              all_goals with_reducible rfl
            try simp only [Act.put, List.setIfInBounds_toArray, List.set_cons_zero, List.set_cons_succ]
            refine wpAnyH_ready (rs := [8]) (by kernel_rfl) (by simp) ?_
            refine AllReadyH.cons (o := Oper.mk _ _ _ _ _ _) rfl (fun K hK => ?_) AllReadyH.nil
            have cf8 := unfrozen hb8
            obtain ⟨m0, m1⟩ := cel2 hb8
            go_simp
            refine hK.out _ _ trivial (fun hHeld => ?_)
            clear hK K
            try simp only [Act.put, List.setIfInBounds_toArray, List.set_cons_zero, List.set_cons_succ]
            refine wpAnyH_done (by kernel_rfl) ?_ _
            have hlen : (l ++ [((⟨#[122, 122]⟩ : ByteArray), t6, (0 : Int))]).length = l.length + 1 := by simp
            clear S5 S6 hb8 hrun c0 c1 cf lc cf8 m0 m1
            obtain ⟨c0, c1⟩ := cel2 S8.out.b1
            obtain ⟨d0, d1⟩ := cel2 S8.out.b0
            have df := unfrozen S8.out.b0
            have HF := mkHid (S8.out.fin (by simp; omega) (small_snoc hsm.out (by show 2 ≤ 1048576; omega) (by omega)) (by omega) (by omega) (.slice (some ⟨q2, 0, none⟩) (l.length + 1) c2) (.int .i64 r))
            rw [hlen] at HF c0
            clear S8
            go_wp2
            exact bodyPost_ret (v := .agg #[.slice (some ⟨q2, 0, none⟩) (l.length + 1) c2, .int .i64 r]) (by simp [results, Try.results54, go_sem, d0, d1]) rfl HF.out
          refine AllReadyH.cons (o := Oper.mk _ _ _ _ _ _) rfl (fun K hK => ?_) AllReadyH.nil
          go_simp
          refine Calls.mono (HT.out _ 60 (by omega) (by exact S5.out.src)) ?_
          rintro e w6 ⟨t6, rfl, ht6, hs6, hg6⟩
          have S6 := mkHid (S5.out.draw hs6 (grew_from hg6 rfl rfl rfl rfl))
          obtain ⟨q2, c2, w8, hrun, hb8, S8⟩ := S6.out.app ⟨#[122, 122]⟩ t6 0 (by omega)
          have S8 := mkHid S8
          clear hs6 hg6
          show K _ _
          refine hK.out _ _ trivial (fun hHeld => ?_)
          clear hK K
          try simp only [Act.put, List.setIfInBounds_toArray, List.set_cons_zero, List.set_cons_succ]
          refine wpAnyH_take (i := 4) (oi := Oper.mk _ _ _ _ _ _) (v := ?_) rfl (by kernel_rfl) (by kernel_rfl) (by kernel_rfl) (fun _ _ _ h => h) (Or.inl ⟨by rfl, ?_⟩) (by assumption) ?_
          rotate_left
          · intro w hSw
            try dsimp only at hSw
            go_simp
            all_goals with_reducible rfl
          try simp only [Act.put, List.setIfInBounds_toArray, List.set_cons_zero, List.set_cons_succ]
          refine wpAnyH_ready (rs := [1, 5]) (by kernel_rfl) (by simp) ?_
          refine AllReadyH.cons (o := Oper.mk _ _ _ _ _ _) rfl (fun K hK => ?_) ?_
          · skip
            have lc := (cel2 S6.out.b1).1
            go_simp
            refine hK.out _ _ trivial (fun hHeld => ?_)
            clear hK K
            try simp only [Act.put, List.setIfInBounds_toArray, List.set_cons_zero, List.set_cons_succ]
            refine wpAnyH_ready (rs := [5]) (by kernel_rfl) (by simp) ?_
            refine AllReadyH.cons (o := Oper.mk _ _ _ _ _ _) rfl (fun K hK => ?_) AllReadyH.nil
            go_simp
            refine hK.out _ _ trivial (fun hHeld => ?_)
            clear hK K
            try simp only [Act.put, List.setIfInBounds_toArray, List.set_cons_zero, List.set_cons_succ]
            refine wpAnyH_ready (rs := [6]) (by kernel_rfl) (by simp) ?_
            refine AllReadyH.cons (o := Oper.mk _ _ _ _ _ _) rfl (fun K hK => ?_) AllReadyH.nil
            go_simp
            refine hK.out _ _ trivial (fun hHeld => ?_)
            clear hK K
            try simp only [Act.put, List.setIfInBounds_toArray, List.set_cons_zero, List.set_cons_succ]
            refine wpAnyH_take (i := 7) (oi := Oper.mk _ _ _ _ _ _) (v := ?_) rfl (by kernel_rfl) (by kernel_rfl) (by kernel_rfl) (fun _ _ _ h => h) (Or.inl ⟨by rfl, ?_⟩) (by assumption) ?_
            rotate_left
            · intro w hSw
              try dsimp only at hSw
              go_simp
              all_goals with_reducible rfl
            try simp only [Act.put, List.setIfInBounds_toArray, List.set_cons_zero, List.set_cons_succ]
            refine wpAnyH_ready (rs := [8]) (by kernel_rfl) (by simp) ?_
            refine AllReadyH.cons (o := Oper.mk _ _ _ _ _ _) rfl (fun K hK => ?_) AllReadyH.nil
            have cf8 := unfrozen hb8
            obtain ⟨m0, m1⟩ := cel2 hb8
            go_simp
            refine hK.out _ _ trivial (fun hHeld => ?_)
            clear hK K
            try simp only [Act.put, List.setIfInBounds_toArray, List.set_cons_zero, List.set_cons_succ]
            refine wpAnyH_done (by kernel_rfl) ?_ _
            have hlen : (l ++ [((⟨#[122, 122]⟩ : ByteArray), t6, (0 : Int))]).length = l.length + 1 := by simp
            clear S5 S6 hb8 hrun c0 c1 cf lc cf8 m0 m1
            obtain ⟨c0, c1⟩ := cel2 S8.out.b1
            obtain ⟨d0, d1⟩ := cel2 S8.out.b0
            have df := unfrozen S8.out.b0
            have HF := mkHid (S8.out.fin (by simp; omega) (small_snoc hsm.out (by show 2 ≤ 1048576; omega) (by omega)) (by omega) (by omega) (.slice (some ⟨q2, 0, none⟩) (l.length + 1) c2) (.int .i64 r))
            rw [hlen] at HF c0
            clear S8
            go_wp2
            exact bodyPost_ret (v := .agg #[.slice (some ⟨q2, 0, none⟩) (l.length + 1) c2, .int .i64 r]) (by simp [results, Try.results54, go_sem, d0, d1]) rfl HF.out
          refine AllReadyH.cons (o := Oper.mk _ _ _ _ _ _) rfl (fun K hK => ?_) AllReadyH.nil
          go_simp
          refine hK.out _ _ trivial (fun hHeld => ?_)
          clear hK K
          try simp only [Act.put, List.setIfInBounds_toArray, List.set_cons_zero, List.set_cons_succ]
          refine wpAnyH_ready (rs := [1]) (by kernel_rfl) (by simp) ?_
          refine AllReadyH.cons (o := Oper.mk _ _ _ _ _ _) rfl (fun K hK => ?_) AllReadyH.nil
          have lc := (cel2 (blk_old S6.out.b1 (.cells #[.string ⟨#[122, 122]⟩, .string t6, .int .i64 0] 39))).1
          go_simp
          refine hK.out _ _ trivial (fun hHeld => ?_)
          clear hK K
          try simp only [Act.put, List.setIfInBounds_toArray, List.set_cons_zero, List.set_cons_succ]
          refine wpAnyH_ready (rs := [6]) (by kernel_rfl) (by simp) ?_
          refine AllReadyH.cons (o := Oper.mk _ _ _ _ _ _) rfl (fun K hK => ?_) AllReadyH.nil
          go_simp
          refine hK.out _ _ trivial (fun hHeld => ?_)
          clear hK K
          try simp only [Act.put, List.setIfInBounds_toArray, List.set_cons_zero, List.set_cons_succ]
          refine wpAnyH_take (i := 7) (oi := Oper.mk _ _ _ _ _ _) (v := ?_) rfl (by kernel_rfl) (by kernel_rfl) (by kernel_rfl) (fun _ _ _ h => h) (Or.inl ⟨by rfl, ?_⟩) (by assumption) ?_
          rotate_left
          · intro w hSw
            try dsimp only at hSw
            go_simp
            all_goals with_reducible rfl
          try simp only [Act.put, List.setIfInBounds_toArray, List.set_cons_zero, List.set_cons_succ]
          refine wpAnyH_ready (rs := [8]) (by kernel_rfl) (by simp) ?_
          refine AllReadyH.cons (o := Oper.mk _ _ _ _ _ _) rfl (fun K hK => ?_) AllReadyH.nil
          have cf8 := unfrozen hb8
          obtain ⟨m0, m1⟩ := cel2 hb8
          go_simp
          refine hK.out _ _ trivial (fun hHeld => ?_)
          clear hK K
          try simp only [Act.put, List.setIfInBounds_toArray, List.set_cons_zero, List.set_cons_succ]
          refine wpAnyH_done (by kernel_rfl) ?_ _
          have hlen : (l ++ [((⟨#[122, 122]⟩ : ByteArray), t6, (0 : Int))]).length = l.length + 1 := by simp
          clear S5 S6 hb8 hrun c0 c1 cf lc cf8 m0 m1
          obtain ⟨c0, c1⟩ := cel2 S8.out.b1
          obtain ⟨d0, d1⟩ := cel2 S8.out.b0
          have df := unfrozen S8.out.b0
          have HF := mkHid (S8.out.fin (by simp; omega) (small_snoc hsm.out (by show 2 ≤ 1048576; omega) (by omega)) (by omega) (by omega) (.slice (some ⟨q2, 0, none⟩) (l.length + 1) c2) (.int .i64 r))
          rw [hlen] at HF c0
          clear S8
          go_wp2
          exact bodyPost_ret (v := .agg #[.slice (some ⟨q2, 0, none⟩) (l.length + 1) c2, .int .i64 r]) (by simp [results, Try.results54, go_sem, d0, d1]) rfl HF.out

end Go.Proofs.Ytfckgpmphcadeaa.draw
