/-
  What laws.markDriveS and laws.markArray leave of drives that are our own. Condition: at most 1,048,576 drives and files in all.
-/
import Derived.Test.YtlcdbkelonbcfaaArL
namespace Go.Proofs.Ytlcdbkelonbcfaa.arr
open Go.RowKit Go.Joins
open Go.Proofs.Ytlcdbkelonbcfaa.base Go.Proofs.Ytlcdbkelonbcfaa.blk Go.Proofs.Ytlcdbkelonbcfaa.aid
open Go.Proofs.Ytlcdbkelonbcfaa.row (Rd Own OwnV)
open Go.Proofs.Ytlcdbkelonbcfaa.rwStored
open Go.Proofs.Ytlcdbkelonbcfaa.strs (mk)
open Go.Proofs.Ytlcdbkelonbcfaa.mem (Mem Mine Off)
set_option linter.unusedVariables false
set_option linter.unusedSimpArgs false

set_option maxRecDepth 100000 in
set_option maxHeartbeats 1000000 in
theorem mark_own9 (g cap : Nat) (l : List (ByteArray × ByteArray × Int)) (m : Nat) (w : World) (hl : l.length ≤ 1048576) (hm1 : m ≤ 900000000) (hr : Own 94 w g (cs l)) :
    Calls Try.prog 74 #[.slice (some ⟨g, 0, none⟩) l.length cap, .int .i64 m] w fun e w' => e = .returned (.int .i64 ((m : Int) + 3 * l.length)) ∧ Own 94 w' g (cs (me m l.length)) ∧ w.grownBy w' (some g) := by
  have hmi : (m : Int) ≤ 900000000 := by omega
  go_enter Try.func74, Try.ntmps74
  go_wp2
  go_loopw [1, 5] (fun c i wr => ∃ k : Nat, k ≤ l.length ∧ i = .int .i64 k ∧ c = .int .i64 ((m : Int) + 3 * k) ∧ Hid (Own 94 wr g (cs (mkE m l k)) ∧ w.grownBy wr (some g)))
    (fun _ i _ => l.length - (intOf i).toNat)
  case atStart => exact ⟨0, Nat.zero_le _, rfl, by simp, mkHid ⟨by rw [mkE_zero]; exact hr, grew_refl _ _⟩⟩
  case round =>
    obtain ⟨k, hk, rfl, rfl, hrow⟩ := hrel
    by_cases hlt : k < l.length
    · have hlti : (k : Int) < (l.length : Int) := by omega
      have hki : (k : Int) ≤ 1048576 := by omega
      have HT0 : Hid (∀ wx, Calls Try.prog 40 #[.int .i64 ((m : Int) + 3 * k)] wx fun e w' => e = .returned (.string (mk (m + 3 * k))) ∧ Below wx.heap.size wx w') := mkHid (fun wx => by
        have h := strs.markText_any (m + 3 * k) wx (by omega)
        have e : ((m + 3 * k : Nat) : Int) = (m : Int) + 3 * k := by omega
        rw [e] at h
        exact h)
      have HT1 : Hid (∀ wx, Calls Try.prog 40 #[.int .i64 ((m : Int) + 3 * k + 1)] wx fun e w' => e = .returned (.string (mk (m + 3 * k + 1))) ∧ Below wx.heap.size wx w') := mkHid (fun wx => by
        have h := strs.markText_any (m + 3 * k + 1) wx (by omega)
        have e : ((m + 3 * k + 1 : Nat) : Int) = (m : Int) + 3 * k + 1 := by omega
        rw [e] at h
        exact h)
      obtain ⟨y, hy⟩ : ∃ y, (mkE m l k)[k]? = some y := ⟨_, List.getElem?_eq_getElem (by rw [mkE_len m l k hk]; exact hlt)⟩
      obtain ⟨b0, b1, b2⟩ := cs_at _ _ _ hy
      have hkl : (cs (mkE m l k)).length = 3 * l.length := by rw [cs_len, mkE_len m l k hk]
      have HE : Hid ((((cs (mkE m l k)).set (k * 3) (.string (mk (m + 3 * k)))).set (k * 3 + 1) (.string (mk (m + 3 * k + 1)))).set (k * 3 + 2) (.int .i64 ((m : Int) + 3 * k + 1 + 1)) = cs (mkE m l (k + 1))) := mkHid (by
        rw [cs_set _ _ _ _ _ (by rw [mkE_len m l k hk]; exact hlt)]
        have e0 := mkE_next m l k hlt
        unfold me1 at e0
        rw [e0])
      generalize cs (mkE m l k) = xs at *
      clear hr hy
      go_wp2_with fail
      refine (HT0.out _).mono ?_
      rintro e w1 ⟨rfl, hb1⟩
      have O1 := mkHid (And.intro (hrow.out.1.below hb1) (grew_below hrow.out.2 hb1))
      have c0_w1 := O1.out.1.cell (i := k * 3) (z := .string y.1) (by exact b0)
      have c1_w1 := O1.out.1.cell (i := k * 3 + 1) (z := .string y.2.1) (by exact b1)
      have c2_w1 := O1.out.1.cell (i := k * 3 + 2) (z := .int .i64 y.2.2) (by exact b2)
      have hf_w1 : ∀ j, w1.frozen? ⟨g, j, none⟩ = false := O1.out.1.free
      clear hb1 HT0 hrow
      have P0 : Hid (Own 94 (w1.setCell ⟨g, k * 3, none⟩ (.string (mk (m + 3 * k)))) g (xs.set (k * 3) (.string (mk (m + 3 * k)))) ∧ w.grownBy (w1.setCell ⟨g, k * 3, none⟩ (.string (mk (m + 3 * k)))) (some g)) := mkHid ⟨O1.out.1.set (k * 3) (by omega) (.string (mk (m + 3 * k))), grew_grew O1.out.2 (grew_cell _ _ _ _)⟩
      go_wp2_with fail
      refine (HT1.out _).mono ?_
      rintro e w2 ⟨rfl, hb2⟩
      have O2 := mkHid (And.intro (P0.out.1.below hb2) (grew_below P0.out.2 hb2))
      have c1_w2 := O2.out.1.cell (i := k * 3 + 1) (z := .string y.2.1) (by simp [List.getElem?_set_ne, b1])
      have c2_w2 := O2.out.1.cell (i := k * 3 + 2) (z := .int .i64 y.2.2) (by simp [List.getElem?_set_ne, b2])
      have hf_w2 : ∀ j, w2.frozen? ⟨g, j, none⟩ = false := O2.out.1.free
      clear hb2 HT1 c0_w1 c1_w1 c2_w1 hf_w1 P0
      have P1 : Hid (Own 94 (w2.setCell ⟨g, k * 3 + 1, none⟩ (.string (mk (m + 3 * k + 1)))) g ((xs.set (k * 3) (.string (mk (m + 3 * k)))).set (k * 3 + 1) (.string (mk (m + 3 * k + 1)))) ∧ w.grownBy (w2.setCell ⟨g, k * 3 + 1, none⟩ (.string (mk (m + 3 * k + 1)))) (some g)) := mkHid ⟨O2.out.1.set (k * 3 + 1) (by simp; omega) (.string (mk (m + 3 * k + 1))), grew_grew O2.out.2 (grew_cell _ _ _ _)⟩
      have P2 : Hid (Own 94 ((w2.setCell ⟨g, k * 3 + 1, none⟩ (.string (mk (m + 3 * k + 1)))).setCell ⟨g, k * 3 + 2, none⟩ (.int .i64 ((m : Int) + 3 * k + 1 + 1))) g (((xs.set (k * 3) (.string (mk (m + 3 * k)))).set (k * 3 + 1) (.string (mk (m + 3 * k + 1)))).set (k * 3 + 2) (.int .i64 ((m : Int) + 3 * k + 1 + 1))) ∧ w.grownBy ((w2.setCell ⟨g, k * 3 + 1, none⟩ (.string (mk (m + 3 * k + 1)))).setCell ⟨g, k * 3 + 2, none⟩ (.int .i64 ((m : Int) + 3 * k + 1 + 1))) (some g)) := mkHid ⟨P1.out.1.set (k * 3 + 2) (by simp; omega) (.int .i64 ((m : Int) + 3 * k + 1 + 1)), grew_grew P1.out.2 (grew_cell _ _ _ _)⟩
      have N1 := P2.out
      rw [HE.out] at N1
      have N2 := mkHid N1
      clear N1 HE P1 P2
      go_wp2
      exact ⟨⟨k + 1, by omega, by go_num, by go_num, N2⟩, by simp [intOf]; omega⟩
    · obtain rfl : k = l.length := by omega
      have R := hrow.out
      rw [mkE_all] at R
      have R' := mkHid R
      clear R hrow hr
      go_wp2
      go_ret
      exact ⟨rfl, R'.out.1, R'.out.2⟩
theorem mark_any9 (a : Option Addr) (cap : Nat) (l : List (ByteArray × ByteArray × Int)) (m : Nat) (w : World) (hl : l.length ≤ 1048576) (hm1 : m ≤ 900000000) (hr : OwnV 94 w a (cs l)) :
    Calls Try.prog 74 #[.slice a l.length cap, .int .i64 m] w fun e w' => e = .returned (.int .i64 ((m : Int) + 3 * l.length)) ∧ OwnV 94 w' a (cs (me m l.length)) ∧ ∃ r, w.grownBy w' r ∧ ∀ b, r = some b → cs l ≠ [] ∧ ∃ o s, a = some ⟨b, o, s⟩ := by
  by_cases h0 : cs l = []
  · have hl0 := cs_zero h0
    subst hl0
    refine (mark_nil cap a m w).mono ?_
    rintro e w1 ⟨rfl, rfl⟩
    exact ⟨by simp, .inl rfl, none, grew_refl _ _, fun b e => by cases e⟩
  · rcases hr with h | ⟨g, rfl, ho⟩
    · exact absurd h h0
    · refine (mark_own9 g cap l m w hl hm1 ho).mono ?_
      rintro e w1 ⟨rfl, h1, h2⟩
      exact ⟨rfl, .inr ⟨g, rfl, h1⟩, some g, h2, fun b e => by cases e; exact ⟨h0, 0, none, rfl⟩⟩

theorem memPerm {W wx : World} {bs : List (Nat × Obj)} {rs : List (Option Addr × List Value)} {os os' : List Mine} (h : Mem W bs rs os wx) (hp : os.Perm os') : Mem W bs rs os' wx :=
  ⟨h.below, h.b, h.r, fun p q => h.o p (hp.mem_iff.2 q), fun p q => h.new p (hp.mem_iff.2 q), (hp.pairwise_iff (fun {x y} q => mem.off_sym q)).1 h.apart⟩
theorem up_perm (D x : Mine) (A B os : List Mine) : (D :: ((A ++ x :: B) ++ os)).Perm (x :: D :: ((A ++ B) ++ os)) := by
  rw [List.append_assoc, List.cons_append, List.append_assoc]
  exact (List.Perm.cons D List.perm_middle).trans (List.Perm.swap x D _)
theorem mines_mid (A B : List Dv) (d : Dv) : mines (A ++ d :: B) = mines A ++ ⟨94, d.1, cs d.2.2.1⟩ :: mines B := by simp [mines]
theorem mines_two (A B : List Dv) : mines (A ++ B) = mines A ++ mines B := by simp [mines]
theorem dcs_room (A B : List Dv) (da : Option Addr) (dc : Nat) (l l' : List Fl) (r z : Int) (h : l'.length = l.length) : (dcs (A ++ (da, dc, l, r) :: B)).set (A.length * 2 + 1) (.int .i64 z) = dcs (A ++ (da, dc, l', z) :: B) := by
  rw [dcs_app, dcs_app, dcs_cons, dcs_cons, List.set_append_right _ _ (by rw [dcs_len]; omega), dcs_len]
  have e : A.length * 2 + 1 - 2 * A.length = 1 := by omega
  rw [e]
  simp [h]
theorem some_take (ds : List Dv) (q : Nat) (d : Dv) (h : ds[q]? = some d) : some_ (ds.take (q + 1)) = some_ (ds.take q) + (d.2.2.1.length : Int) ∧ some_ (ds.take (q + 1)) ≤ some_ ds := by
  refine ⟨?_, ?_⟩
  · rw [List.take_add_one, h, some_app]
    simp [some_]
  · have e := some_app (ds.take (q + 1)) (ds.drop (q + 1))
    rw [List.take_append_drop] at e
    have := some_pos (ds.drop (q + 1))
    omega
set_option maxRecDepth 100000 in
set_option maxHeartbeats 2000000 in
theorem mkDS_any (W : World) (bs : List (Nat × Obj)) (rs : List (Option Addr × List Value)) (os : List Mine) (G c : Nat) (ds : List Dv) (m : Nat) (w : World) (hm : m ≤ 10) (hs : some_ ds + ds.length ≤ 1048576) (hM : Mem W bs rs (⟨92, some ⟨G, 0, none⟩, dcs ds⟩ :: (mines ds ++ os)) w) :
    Calls Try.prog 39 #[.slice (some ⟨G, 0, none⟩) ds.length c, .int .i64 m] w fun e w' => (∃ z, e = .returned (.int .i64 z) ∧ 0 ≤ z) ∧ Mem W bs rs os w' := by
  have hsp := some_pos ds
  have hli : (ds.length : Int) ≤ 1048576 := by omega
  have M0 : Hid (Mem W bs rs (⟨92, some ⟨G, 0, none⟩, dcs ([] ++ ds.drop 0)⟩ :: (mines ([] ++ ds.drop 0) ++ os)) w) := mkHid hM
  have hmi : (m : Int) ≤ 10 := by omega
  clear hM
  go_enter Try.func39, Try.ntmps39
  go_wp2_with fail
  go_loopw [1, 5] (fun kv i wr => ∃ (q k : Nat) (ds1 : List Dv), q ≤ ds.length ∧ i = .int .i64 q ∧ kv = .int .i64 k ∧ ds1.length = q ∧ Hid ((k : Int) ≤ m + 4 * (some_ (ds.take q) + q)) ∧ Hid (Mem W bs rs (⟨92, some ⟨G, 0, none⟩, dcs (ds1 ++ ds.drop q)⟩ :: (mines (ds1 ++ ds.drop q) ++ os)) wr))
    (fun _ i _ => ds.length - (intOf i).toNat)
  case atStart => exact ⟨0, m, [], Nat.zero_le _, rfl, rfl, rfl, mkHid (by simp [some_]), M0⟩
  case round =>
    clear M0
    obtain ⟨q, k, ds1, hq, rfl, rfl, hd1, hK, hM⟩ := hrel
    by_cases hlt : q < ds.length
    · have hlti : (q : Int) < (ds.length : Int) := by omega
      obtain ⟨d, hx⟩ : ∃ y, ds[q]? = some y := ⟨_, List.getElem?_eq_getElem hlt⟩
      have hst := some_take ds q d hx
      have hdr : ds.drop q = d :: ds.drop (q + 1) := by rw [List.drop_eq_getElem_cons hlt, (List.getElem?_eq_some_iff.1 hx).2]
      obtain ⟨da, dc, dl, dr⟩ := d
      simp only at hst
      have hp0 := some_pos (ds.take q)
      have hki := hK.out
      have hdl : dl.length ≤ 1048576 := by omega
      have hdli : (dl.length : Int) ≤ 1048576 := by omega
      have hk9 : k ≤ 900000000 := by omega
      have hk9i : (k : Int) ≤ 900000000 := by omega
      have M1 := hM.out
      rw [hdr] at M1
      have hat : (ds1 ++ (da, dc, dl, dr) :: ds.drop (q + 1))[q]? = some (da, dc, dl, dr) := by rw [← hd1]; simp
      obtain ⟨x0, x1⟩ := dcs_at _ _ _ hat
      simp only at x0 x1
      have hne : dcs (ds1 ++ (da, dc, dl, dr) :: ds.drop (q + 1)) ≠ [] := by rw [dcs_app, dcs_cons]; simp
      have hown : ∀ {wx : World} {xs : List Value}, xs ≠ [] → OwnV 92 wx (some ⟨G, 0, none⟩) xs → Own 92 wx G xs := by
        intro wx xs h1 h2
        rcases h2 with h2 | ⟨g, e, h2⟩
        · exact absurd h2 h1
        · cases e; exact h2
      have c0 := (hown hne M1.o0).cell x0
      rw [mines_mid] at M1
      have M2 := mkHid (memPerm M1 (up_perm _ _ _ _ _))
      have HA := mkHid (mark_any9 da dc dl k wr hdl hk9 M2.out.o0)
      have HX := mkHid (And.intro x1 hne)
      have HST := mkHid hst
      clear hst hdr hx hM M1 x0 x1 hat hne
      go_wp2_with fail
      refine HA.out.mono ?_
      rintro e w1 ⟨rfl, ho, r, hg, hr⟩
      have M3 := M2.out.mark hg hr ho (by intro h e; exact h (by have : dl = [] := rwStored.cs_zero e; subst this; rfl))
      have M4 := memPerm M3 (up_perm _ _ _ _ _).symm
      have O4 := hown HX.out.2 M4.o0
      have z1 := O4.cell HX.out.1
      have f1 := O4.free (q * 2 + 1)
      have M5 : Hid (Mem W bs rs (⟨92, some ⟨G, 0, none⟩, dcs ((ds1 ++ [(da, dc, me k dl.length, (k : Int) + 3 * dl.length)]) ++ ds.drop (q + 1))⟩ :: (mines ((ds1 ++ [(da, dc, me k dl.length, (k : Int) + 3 * dl.length)]) ++ ds.drop (q + 1)) ++ os)) (w1.setCell ⟨G, q * 2 + 1, none⟩ (.int .i64 ((k : Int) + 3 * dl.length)))) := mkHid (by
        have hset := O4.set (q * 2 + 1) (List.getElem?_eq_some_iff.1 HX.out.1).1 (.int .i64 ((k : Int) + 3 * dl.length))
        have e1 : (dcs (ds1 ++ (da, dc, dl, dr) :: ds.drop (q + 1))).set (q * 2 + 1) (.int .i64 ((k : Int) + 3 * dl.length)) = dcs (ds1 ++ (da, dc, me k dl.length, (k : Int) + 3 * dl.length) :: ds.drop (q + 1)) := by
          rw [← hd1]
          exact dcs_room _ _ _ _ _ _ _ _ (by simp [me])
        rw [e1] at hset
        have M6 := M4.mark (grew_cell w1 G (q * 2 + 1) (.int .i64 ((k : Int) + 3 * dl.length))) (fun b e => by cases e; exact ⟨HX.out.2, 0, none, rfl⟩) (.inr ⟨G, rfl, hset⟩) (fun _ => HX.out.2)
        rw [List.append_assoc, List.singleton_append, mines_mid]
        exact M6)
      have N1 : Hid ((((k + 3 * dl.length + 1 : Nat)) : Int) ≤ m + 4 * (some_ (ds.take (q + 1)) + ((q + 1 : Nat) : Int))) := mkHid (by have := HST.out.1; omega)
      have hl2 : (ds1 ++ [(da, dc, me k dl.length, (k : Int) + 3 * dl.length)]).length = q + 1 := by simp [hd1]
      clear ho hg hr M3 M4 O4 M2 HA HX HST hK hki hown c0
      go_wp2
      exact ⟨⟨q + 1, k + 3 * dl.length + 1, _, by omega, by go_num, by go_num, hl2, N1, M5⟩, by simp [intOf]; omega⟩
    · obtain rfl : q = ds.length := by omega
      have hk0 : (0 : Int) ≤ (k : Int) := by omega
      have R : Hid (Mem W bs rs os wr) := mkHid (by
        have h1 := hM.out
        exact ⟨h1.below, h1.b, h1.r, fun p hp => h1.o p (.tail _ (List.mem_append_right _ hp)), fun p hp => h1.new p (.tail _ (List.mem_append_right _ hp)), (List.pairwise_append.1 (List.pairwise_cons.1 h1.apart).2).2.1⟩)
      clear hM hK
      go_wp2
      go_ret
      exact ⟨⟨_, rfl, hk0⟩, R.out⟩
set_option maxRecDepth 100000 in
theorem mkA_any (W : World) (bs : List (Nat × Obj)) (rs : List (Option Addr × List Value)) (os : List Mine) (k m : Int) (G c : Nat) (ds : List Dv) (n : Nat) (hn : ds.length = n) (w : World) (hs : some_ ds + ds.length ≤ 1048576) (hM : Mem W bs rs (⟨92, some ⟨G, 0, none⟩, dcs ds⟩ :: (mines ds ++ os)) w) :
    Calls Try.prog 14 #[.agg #[.int .i64 k, .int .i64 m, .slice (some ⟨G, 0, none⟩) n c], .int .i64 1] w fun e w' => (∃ z, e = .returned (.int .i64 z) ∧ 0 ≤ z) ∧ Mem W bs rs os w' := by
  subst hn
  have HA := mkHid (mkDS_any W bs rs os G c ds 1 (w.alloc (.cells #[.int .i64 k, .int .i64 m, .slice (some ⟨G, 0, none⟩) ds.length c] 30)) (by omega) hs (hM.alloc _))
  clear hM
  go_enter Try.func14, Try.ntmps14
  go_wp2_with fail
  refine HA.out.mono ?_
  rintro e w1 ⟨⟨z, rfl, hz⟩, hM⟩
  have M1 := mkHid hM
  clear hM HA
  go_wp2
  go_ret
  exact ⟨⟨_, rfl, hz⟩, M1.out⟩
end Go.Proofs.Ytlcdbkelonbcfaa.arr
