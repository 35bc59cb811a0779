/-
  What the specification's reader of places answers and leaves. Conditions: a text of at most 20,000 bytes, a place within it.
-/
import Derived.Test.YtlcdbkelonbcfaaRrP
import Derived.Test.YtlcdbkelonbcfaaTextS
import Derived.Test.YtlcdbkelonbcfaaRwPlace
import Derived.Deep.RegionHeld3
namespace Go.Proofs.Ytlcdbkelonbcfaa.plc
open Go.RowKit Go.Joins
open Go.Proofs.Ytlcdbkelonbcfaa.base Go.Proofs.Ytlcdbkelonbcfaa.blk Go.Proofs.Ytlcdbkelonbcfaa.aid
open Go.Proofs.Ytlcdbkelonbcfaa.num (G T out tout)
set_option linter.unusedVariables false
set_option linter.unusedSimpArgs false

def rdO (s : ByteArray) (st : St) : Obj := .cells #[.string s, .int .i64 (st.1 : Int), .bool st.2] 111
theorem rdO_cells {w : World} {g : Nat} {s : ByteArray} {st : St} (h : w.heap[g]? = some (rdO s st)) : w.cell? ⟨g, 0, none⟩ = some (.string s) ∧ w.cell? ⟨g, 1, none⟩ = some (.int .i64 (st.1 : Int)) ∧ w.cell? ⟨g, 2, none⟩ = some (.bool st.2) := by
  unfold rdO at h
  simp [World.cell?, h]
theorem rdO_at {w : World} {g : Nat} {s : ByteArray} {st : St} (h : w.heap[g]? = some (rdO s st)) (b : Nat) : (w.setCell ⟨g, 1, none⟩ (.int .i64 (b : Int))).heap[g]? = some (rdO s (b, st.2)) := by
  unfold rdO at *
  exact heap_setCell_same w g 1 _ _ _ h
theorem rdO_bad {w : World} {g : Nat} {s : ByteArray} {st : St} (h : w.heap[g]? = some (rdO s st)) : (w.setCell ⟨g, 2, none⟩ (.bool true)).heap[g]? = some (rdO s (st.1, true)) := by
  unfold rdO at *
  exact heap_setCell_same w g 2 _ _ _ h
/-- the reader stands there behind a call, nothing else has changed -/
structure RPost (w : World) (g : Nat) (s : ByteArray) (st : St) (w' : World) : Prop where
  at_ : w'.heap[g]? = some (rdO s st)
  grew : w.grownBy w' (some g)
theorem RPost.start {w : World} {g : Nat} {s : ByteArray} {st : St} (h : w.heap[g]? = some (rdO s st)) : RPost w g s st w := ⟨h, grew_refl _ _⟩
theorem RPost.next {w w1 w' : World} {g : Nat} {s : ByteArray} {st : St} (h : RPost w g s st w1) (hb : Below w1.heap.size w1 w') : RPost w g s st w' :=
  ⟨blk_below h.at_ hb, World.grownBy.andThen (row := some g) h.grew (below_grew hb (some g)) (fun j hj => .inr hj)⟩
theorem RPost.then {w w1 w' : World} {g : Nat} {s : ByteArray} {st st' : St} (h : RPost w g s st w1) (h2 : RPost w1 g s st' w') : RPost w g s st' w' :=
  ⟨h2.at_, World.grownBy.andThen (row := some g) h.grew h2.grew (fun j hj => .inr hj)⟩
theorem RPost.bad {w w1 : World} {g : Nat} {s : ByteArray} {st : St} (h : RPost w g s st w1) : RPost w g s (st.1, true) (w1.setCell ⟨g, 2, none⟩ (.bool true)) :=
  ⟨rdO_bad h.at_, World.grownBy.andThen (row := some g) h.grew (grew_cell w1 g 2 _) (fun j hj => .inr hj)⟩
theorem RPost.to {w w1 : World} {g : Nat} {s : ByteArray} {st : St} (h : RPost w g s st w1) (b : Nat) : RPost w g s (b, st.2) (w1.setCell ⟨g, 1, none⟩ (.int .i64 (b : Int))) :=
  ⟨rdO_at h.at_ b, World.grownBy.andThen (row := some g) h.grew (grew_cell w1 g 1 _) (fun j hj => .inr hj)⟩
theorem RPost.var {w w1 : World} {g : Nat} {s : ByteArray} {st : St} {T : TypeId} {x0 x1 x2 : Value} (h : RPost w g s st w1) (hb : w1.heap[w.heap.size]? = some (.cells #[x0, x1, x2] T)) (u0 u1 u2 : Value) (hg : g < w.heap.size := by omega) :
    RPost w g s st (((w1.setCell ⟨w.heap.size, 0, none⟩ u0).setCell ⟨w.heap.size, 1, none⟩ u1).setCell ⟨w.heap.size, 2, none⟩ u2) ∧ (((w1.setCell ⟨w.heap.size, 0, none⟩ u0).setCell ⟨w.heap.size, 1, none⟩ u1).setCell ⟨w.heap.size, 2, none⟩ u2).heap[w.heap.size]? = some (.cells #[u0, u1, u2] T) := by
  have hne : g ≠ w.heap.size := by omega
  refine ⟨⟨?_, ?_⟩, ?_⟩
  · exact blk_set (blk_set (blk_set h.at_ _ _ hne) _ _ hne) _ _ hne
  · refine World.grownBy.andThen (row := some g) (row' := some w.heap.size) h.grew ?_ (fun j hj => .inl (by cases hj; exact Nat.le_refl _))
    exact World.grownBy.andThen (row := some w.heap.size) (World.grownBy.andThen (row := some w.heap.size) (grew_cell w1 _ 0 u0) (grew_cell _ _ 1 u1) (fun j hj => .inr hj)) (grew_cell _ _ 2 u2) (fun j hj => .inr hj)
  · have e1 : (w1.setCell ⟨w.heap.size, 0, none⟩ u0).heap[w.heap.size]? = some (.cells #[u0, x1, x2] T) := heap_setCell_same w1 w.heap.size 0 _ _ _ hb
    have e2 : ((w1.setCell ⟨w.heap.size, 0, none⟩ u0).setCell ⟨w.heap.size, 1, none⟩ u1).heap[w.heap.size]? = some (.cells #[u0, u1, x2] T) := heap_setCell_same _ w.heap.size 1 _ _ _ e1
    exact heap_setCell_same _ w.heap.size 2 _ _ _ e2
theorem T_code {s : ByteArray} {a c : Int} (h : T s a = .error c) : c ≠ 0 := by
  unfold T at h
  cases hG : G s a with
  | error d => rw [hG] at h; cases h; exact nbk.G_code hG
  | ok r =>
    rw [hG] at h
    obtain ⟨n, p⟩ := r
    simp only at h
    split at h
    · cases h; decide
    · split at h
      · cases h; decide
      · cases h
theorem numS_yes (s : ByteArray) (a : Nat) (n p : Int) (hG : G s (a : Int) = .ok (n, p)) : ∃ P : Nat, p = (P : Int) ∧ P ≤ s.size ∧ numS s (a, false) = (n, (P, false)) := by
  obtain ⟨P, rfl, _, h2, _⟩ := nbk.G_nat hG
  refine ⟨P, rfl, h2, ?_⟩
  unfold numS
  simp only [Bool.false_eq_true, if_false, hG]
  simp
theorem txtS_yes (s : ByteArray) (a : Nat) (t : ByteArray) (p : Int) (hT : T s (a : Int) = .ok (t, p)) : ∃ P : Nat, p = (P : Int) ∧ P ≤ s.size ∧ txtS s (a, false) = (t, (P, false)) := by
  have e : txtS s (a, false) = (t, (p.toNat, false)) := by
    unfold txtS
    simp only [Bool.false_eq_true, if_false, hT]
  obtain ⟨_, h2, _, h4, _⟩ := txtS_ok e
  have h2' : T s (a : Int) = .ok (t, ((p.toNat : Nat) : Int)) := h2
  rw [hT] at h2'
  simp only [Except.ok.injEq, Prod.mk.injEq, true_and] at h2'
  exact ⟨p.toNat, h2', h4, e⟩
set_option maxRecDepth 100000 in
set_option maxHeartbeats 2000000 in
theorem num_any (g : Nat) (s : ByteArray) (st : St) (w : World) (h : w.heap[g]? = some (rdO s st)) (hs : s.size ≤ 20000) (ha : st.1 ≤ 20000) :
    Calls Try.prog 86 #[.pointer (some ⟨g, 0, none⟩)] w fun e w' => e = .returned (.int .i64 (numS s st).1) ∧ RPost w g s (numS s st).2 w' := by
  obtain ⟨a, f⟩ := st
  have HN := mkHid (fun wx => num.spec_any s a wx hs (by omega))
  have R0 := mkHid (RPost.start h)
  obtain ⟨c0, c1, c2⟩ := rdO_cells h
  simp only at c1 c2 ha
  have hlt := (Array.getElem?_eq_some_iff.1 h).1
  have hK : ∀ (W : World) (u0 u1 u2 : Value) (j : Nat), (((W.setCell ⟨w.heap.size, 0, none⟩ u0).setCell ⟨w.heap.size, 1, none⟩ u1).setCell ⟨w.heap.size, 2, none⟩ u2).cell? ⟨g, j, none⟩ = W.cell? ⟨g, j, none⟩ := fun W u0 u1 u2 j => by
    have e : ∀ (V : World) (p : Addr) (u : Value), p.block = w.heap.size → (V.setCell p u).cell? ⟨g, j, none⟩ = V.cell? ⟨g, j, none⟩ := fun V p u hp => by
      unfold World.cell?
      rw [Below.heap_setCell V p u g (by omega)]
    rw [e _ _ _ rfl, e _ _ _ rfl, e _ _ _ rfl]
  have HV := mkHid (numS_bad s a)
  have HW := mkHid (show ∀ c, G s (a : Int) = .error c → numS s (a, false) = (0, (a, true)) by intro c hG; unfold numS; simp only [Bool.false_eq_true, if_false, hG])
  have HX := mkHid (numS_yes s a)
  clear h
  cases hG : G s (a : Int) with
  | error c =>
    have hc : c ≠ 0 := nbk.G_code hG
    have hc' : (c != 0) = true := by simpa using hc
    rw [hG] at HN
    cases f with
    | true =>
      rw [HV.out]
      clear HV HW HX hG
      go_enter Try.func86, Try.ntmps86
      go_wp2_with fail
      go_region_held3 (fun w' => w'.cell? ⟨g, 0, none⟩ = some (.string s) ∧ w'.cell? ⟨g, 1, none⟩ = some (.int .i64 (a : Int)) ∧ w'.cell? ⟨g, 2, none⟩ = some (.bool true)) (go_keep)
        ((go_at_call 104; refine Calls.mono (HN.out _) ?_; rintro e w1 ⟨rfl, hb1⟩; (first
          | (have r1 := re (w := w) hb1 rfl rfl rfl rfl; have R1 := mkHid (R0.out.next r1); obtain ⟨d0, d1, d2⟩ := rdO_cells R1.out.at_; have e0 := World.new_ne w1 ⟨g, 0, none⟩ d0; have e1 := World.new_ne w1 ⟨g, 1, none⟩ d1; have e2 := World.new_ne w1 ⟨g, 2, none⟩ d2; clear hb1 r1)
          | (have r1 := re (w := w.alloc (.cells #[.int .i64 0, .int .i64 0, .int .i64 0] 133)) hb1 rfl rfl rfl rfl; have R1 := mkHid ((R0.out.next (below_alloc1 w _)).next r1); obtain ⟨d0, d1, d2⟩ := rdO_cells R1.out.at_; have b1 := blk_below (blk_new w (.cells #[.int .i64 0, .int .i64 0, .int .i64 0] 133) w.heap.size rfl) r1; have u1 := unfrozen b1; obtain ⟨k0, k1, k2⟩ := cel3 b1; clear hb1 r1)); unfold out))
      · have RB := mkHid (R1.out.next (below_alloc1 w1 (.cells #[.int .i64 0, .int .i64 0, .int .i64 c] 133)))
        have QB := mkHid (blk_new w1 (.cells #[.int .i64 0, .int .i64 0, .int .i64 c] 133) w1.heap.size rfl)
        clear d0 d1 d2 e0 e1 e2 c0 c1 c2 hK R1
        generalize w1.alloc (.cells #[.int .i64 0, .int .i64 0, .int .i64 c] 133) = W at *
        obtain ⟨d0, d1, d2⟩ := rdO_cells RB.out.at_
        simp only at d1 d2
        obtain ⟨k0, k1, k2⟩ := cel3 QB.out
        have uf := unfrozen (show _ = some (Obj.cells _ _) from RB.out.at_)
        have F := mkHid RB.out.bad
        simp only at F
        clear RB QB R0 HN
        go_wp2
        go_ret
        exact ⟨rfl, F.out⟩
      · have Q := RPost.var R1.out b1 (.int .i64 0) (.int .i64 0) (.int .i64 c)
        clear d0 d1 d2 k0 k1 k2 u1 b1 c0 c1 c2 hK
        generalize ((w1.setCell ⟨w.heap.size, 0, none⟩ (.int .i64 0)).setCell ⟨w.heap.size, 1, none⟩ (.int .i64 0)).setCell ⟨w.heap.size, 2, none⟩ (.int .i64 c) = W at *
        have RB := mkHid Q.1
        have QB := mkHid Q.2
        clear Q R1
        obtain ⟨d0, d1, d2⟩ := rdO_cells RB.out.at_
        simp only at d1 d2
        obtain ⟨k0, k1, k2⟩ := cel3 QB.out
        have uf := unfrozen (show _ = some (Obj.cells _ _) from RB.out.at_)
        have F := mkHid RB.out.bad
        simp only at F
        clear RB QB R0 HN
        go_wp2
        go_ret
        exact ⟨rfl, F.out⟩
    | false =>
      rw [HW.out c hG]
      clear HV HW HX hG
      go_enter Try.func86, Try.ntmps86
      go_wp2_with fail
      go_region_held3 (fun w' => w'.cell? ⟨g, 0, none⟩ = some (.string s) ∧ w'.cell? ⟨g, 1, none⟩ = some (.int .i64 (a : Int)) ∧ w'.cell? ⟨g, 2, none⟩ = some (.bool false)) (go_keep)
        ((go_at_call 104; refine Calls.mono (HN.out _) ?_; rintro e w1 ⟨rfl, hb1⟩; (first
          | (have r1 := re (w := w) hb1 rfl rfl rfl rfl; have R1 := mkHid (R0.out.next r1); obtain ⟨d0, d1, d2⟩ := rdO_cells R1.out.at_; have e0 := World.new_ne w1 ⟨g, 0, none⟩ d0; have e1 := World.new_ne w1 ⟨g, 1, none⟩ d1; have e2 := World.new_ne w1 ⟨g, 2, none⟩ d2; clear hb1 r1)
          | (have r1 := re (w := w.alloc (.cells #[.int .i64 0, .int .i64 0, .int .i64 0] 133)) hb1 rfl rfl rfl rfl; have R1 := mkHid ((R0.out.next (below_alloc1 w _)).next r1); obtain ⟨d0, d1, d2⟩ := rdO_cells R1.out.at_; have b1 := blk_below (blk_new w (.cells #[.int .i64 0, .int .i64 0, .int .i64 0] 133) w.heap.size rfl) r1; have u1 := unfrozen b1; obtain ⟨k0, k1, k2⟩ := cel3 b1; clear hb1 r1)); unfold out))
      · have RB := mkHid (R1.out.next (below_alloc1 w1 (.cells #[.int .i64 0, .int .i64 0, .int .i64 c] 133)))
        have QB := mkHid (blk_new w1 (.cells #[.int .i64 0, .int .i64 0, .int .i64 c] 133) w1.heap.size rfl)
        clear d0 d1 d2 e0 e1 e2 c0 c1 c2 hK R1
        generalize w1.alloc (.cells #[.int .i64 0, .int .i64 0, .int .i64 c] 133) = W at *
        obtain ⟨d0, d1, d2⟩ := rdO_cells RB.out.at_
        simp only at d1 d2
        obtain ⟨k0, k1, k2⟩ := cel3 QB.out
        have uf := unfrozen (show _ = some (Obj.cells _ _) from RB.out.at_)
        have F := mkHid RB.out.bad
        simp only at F
        clear RB QB R0 HN
        go_wp2
        go_ret
        exact ⟨rfl, F.out⟩
      · have Q := RPost.var R1.out b1 (.int .i64 0) (.int .i64 0) (.int .i64 c)
        clear d0 d1 d2 k0 k1 k2 u1 b1 c0 c1 c2 hK
        generalize ((w1.setCell ⟨w.heap.size, 0, none⟩ (.int .i64 0)).setCell ⟨w.heap.size, 1, none⟩ (.int .i64 0)).setCell ⟨w.heap.size, 2, none⟩ (.int .i64 c) = W at *
        have RB := mkHid Q.1
        have QB := mkHid Q.2
        clear Q R1
        obtain ⟨d0, d1, d2⟩ := rdO_cells RB.out.at_
        simp only at d1 d2
        obtain ⟨k0, k1, k2⟩ := cel3 QB.out
        have uf := unfrozen (show _ = some (Obj.cells _ _) from RB.out.at_)
        have F := mkHid RB.out.bad
        simp only at F
        clear RB QB R0 HN
        go_wp2
        go_ret
        exact ⟨rfl, F.out⟩
  | ok r =>
    obtain ⟨n, p⟩ := r
    obtain ⟨P, rfl, hP, hE⟩ := HX.out n p hG
    have hPi : (P : Int) ≤ 20000 := by omega
    rw [hG] at HN
    cases f with
    | true =>
      rw [HV.out]
      clear HV HW HX hG hE
      go_enter Try.func86, Try.ntmps86
      go_wp2_with fail
      go_region_held3 (fun w' => w'.cell? ⟨g, 0, none⟩ = some (.string s) ∧ w'.cell? ⟨g, 1, none⟩ = some (.int .i64 (a : Int)) ∧ w'.cell? ⟨g, 2, none⟩ = some (.bool true)) (go_keep)
        ((go_at_call 104; refine Calls.mono (HN.out _) ?_; rintro e w1 ⟨rfl, hb1⟩; (first
          | (have r1 := re (w := w) hb1 rfl rfl rfl rfl; have R1 := mkHid (R0.out.next r1); obtain ⟨d0, d1, d2⟩ := rdO_cells R1.out.at_; have e0 := World.new_ne w1 ⟨g, 0, none⟩ d0; have e1 := World.new_ne w1 ⟨g, 1, none⟩ d1; have e2 := World.new_ne w1 ⟨g, 2, none⟩ d2; clear hb1 r1)
          | (have r1 := re (w := w.alloc (.cells #[.int .i64 0, .int .i64 0, .int .i64 0] 133)) hb1 rfl rfl rfl rfl; have R1 := mkHid ((R0.out.next (below_alloc1 w _)).next r1); obtain ⟨d0, d1, d2⟩ := rdO_cells R1.out.at_; have b1 := blk_below (blk_new w (.cells #[.int .i64 0, .int .i64 0, .int .i64 0] 133) w.heap.size rfl) r1; have u1 := unfrozen b1; obtain ⟨k0, k1, k2⟩ := cel3 b1; clear hb1 r1)); unfold out))
      · have RB := mkHid (R1.out.next (below_alloc1 w1 (.cells #[.int .i64 n, .int .i64 (P : Int), .int .i64 0] 133)))
        have QB := mkHid (blk_new w1 (.cells #[.int .i64 n, .int .i64 (P : Int), .int .i64 0] 133) w1.heap.size rfl)
        clear d0 d1 d2 e0 e1 e2 c0 c1 c2 hK R1
        generalize w1.alloc (.cells #[.int .i64 n, .int .i64 (P : Int), .int .i64 0] 133) = W at *
        obtain ⟨d0, d1, d2⟩ := rdO_cells RB.out.at_
        simp only at d1 d2
        obtain ⟨k0, k1, k2⟩ := cel3 QB.out
        have uf := unfrozen (show _ = some (Obj.cells _ _) from RB.out.at_)
        have F := mkHid RB.out.bad
        simp only at F
        clear RB QB R0 HN
        go_wp2
        go_ret
        exact ⟨rfl, F.out⟩
      · have Q := RPost.var R1.out b1 (.int .i64 n) (.int .i64 (P : Int)) (.int .i64 0)
        clear d0 d1 d2 k0 k1 k2 u1 b1 c0 c1 c2 hK
        generalize ((w1.setCell ⟨w.heap.size, 0, none⟩ (.int .i64 n)).setCell ⟨w.heap.size, 1, none⟩ (.int .i64 (P : Int))).setCell ⟨w.heap.size, 2, none⟩ (.int .i64 0) = W at *
        have RB := mkHid Q.1
        have QB := mkHid Q.2
        clear Q R1
        obtain ⟨d0, d1, d2⟩ := rdO_cells RB.out.at_
        simp only at d1 d2
        obtain ⟨k0, k1, k2⟩ := cel3 QB.out
        have uf := unfrozen (show _ = some (Obj.cells _ _) from RB.out.at_)
        have F := mkHid RB.out.bad
        simp only at F
        clear RB QB R0 HN
        go_wp2
        go_ret
        exact ⟨rfl, F.out⟩
    | false =>
      rw [hE]
      clear HV HW HX hG hE
      go_enter Try.func86, Try.ntmps86
      go_wp2_with fail
      go_region_held3 (fun w' => w'.cell? ⟨g, 0, none⟩ = some (.string s) ∧ w'.cell? ⟨g, 1, none⟩ = some (.int .i64 (a : Int)) ∧ w'.cell? ⟨g, 2, none⟩ = some (.bool false)) (go_keep)
        ((go_at_call 104; refine Calls.mono (HN.out _) ?_; rintro e w1 ⟨rfl, hb1⟩; (first
          | (have r1 := re (w := w) hb1 rfl rfl rfl rfl; have R1 := mkHid (R0.out.next r1); obtain ⟨d0, d1, d2⟩ := rdO_cells R1.out.at_; have e0 := World.new_ne w1 ⟨g, 0, none⟩ d0; have e1 := World.new_ne w1 ⟨g, 1, none⟩ d1; have e2 := World.new_ne w1 ⟨g, 2, none⟩ d2; clear hb1 r1)
          | (have r1 := re (w := w.alloc (.cells #[.int .i64 0, .int .i64 0, .int .i64 0] 133)) hb1 rfl rfl rfl rfl; have R1 := mkHid ((R0.out.next (below_alloc1 w _)).next r1); obtain ⟨d0, d1, d2⟩ := rdO_cells R1.out.at_; have b1 := blk_below (blk_new w (.cells #[.int .i64 0, .int .i64 0, .int .i64 0] 133) w.heap.size rfl) r1; have u1 := unfrozen b1; obtain ⟨k0, k1, k2⟩ := cel3 b1; clear hb1 r1)); unfold out))
      · have RB := mkHid (R1.out.next (below_alloc1 w1 (.cells #[.int .i64 n, .int .i64 (P : Int), .int .i64 0] 133)))
        have QB := mkHid (blk_new w1 (.cells #[.int .i64 n, .int .i64 (P : Int), .int .i64 0] 133) w1.heap.size rfl)
        clear d0 d1 d2 e0 e1 e2 c0 c1 c2 hK R1
        generalize w1.alloc (.cells #[.int .i64 n, .int .i64 (P : Int), .int .i64 0] 133) = W at *
        obtain ⟨d0, d1, d2⟩ := rdO_cells RB.out.at_
        simp only at d1 d2
        obtain ⟨k0, k1, k2⟩ := cel3 QB.out
        have uf := unfrozen (show _ = some (Obj.cells _ _) from RB.out.at_)
        have F := mkHid (RB.out.to P)
        simp only at F
        clear RB QB R0 HN
        go_wp2
        go_ret
        exact ⟨rfl, F.out⟩
      · have Q := RPost.var R1.out b1 (.int .i64 n) (.int .i64 (P : Int)) (.int .i64 0)
        clear d0 d1 d2 k0 k1 k2 u1 b1 c0 c1 c2 hK
        generalize ((w1.setCell ⟨w.heap.size, 0, none⟩ (.int .i64 n)).setCell ⟨w.heap.size, 1, none⟩ (.int .i64 (P : Int))).setCell ⟨w.heap.size, 2, none⟩ (.int .i64 0) = W at *
        have RB := mkHid Q.1
        have QB := mkHid Q.2
        clear Q R1
        obtain ⟨d0, d1, d2⟩ := rdO_cells RB.out.at_
        simp only at d1 d2
        obtain ⟨k0, k1, k2⟩ := cel3 QB.out
        have uf := unfrozen (show _ = some (Obj.cells _ _) from RB.out.at_)
        have F := mkHid (RB.out.to P)
        simp only at F
        clear RB QB R0 HN
        go_wp2
        go_ret
        exact ⟨rfl, F.out⟩
set_option maxRecDepth 100000 in
set_option maxHeartbeats 2000000 in
theorem txt_any (g : Nat) (s : ByteArray) (st : St) (w : World) (h : w.heap[g]? = some (rdO s st)) (hs : s.size ≤ 20000) (ha : st.1 ≤ 20000) :
    Calls Try.prog 85 #[.pointer (some ⟨g, 0, none⟩)] w fun e w' => e = .returned (.string (txtS s st).1) ∧ RPost w g s (txtS s st).2 w' := by
  obtain ⟨a, f⟩ := st
  have HN := mkHid (fun wx => num.stext_any s (a : Int) wx (by omega) (by omega) (by omega))
  have R0 := mkHid (RPost.start h)
  obtain ⟨c0, c1, c2⟩ := rdO_cells h
  simp only at c1 c2 ha
  have hlt := (Array.getElem?_eq_some_iff.1 h).1
  have hK : ∀ (W : World) (u0 u1 u2 : Value) (j : Nat), (((W.setCell ⟨w.heap.size, 0, none⟩ u0).setCell ⟨w.heap.size, 1, none⟩ u1).setCell ⟨w.heap.size, 2, none⟩ u2).cell? ⟨g, j, none⟩ = W.cell? ⟨g, j, none⟩ := fun W u0 u1 u2 j => by
    have e : ∀ (V : World) (p : Addr) (u : Value), p.block = w.heap.size → (V.setCell p u).cell? ⟨g, j, none⟩ = V.cell? ⟨g, j, none⟩ := fun V p u hp => by
      unfold World.cell?
      rw [Below.heap_setCell V p u g (by omega)]
    rw [e _ _ _ rfl, e _ _ _ rfl, e _ _ _ rfl]
  have HV := mkHid (txtS_bad s a)
  have HW := mkHid (show ∀ c, T s (a : Int) = .error c → txtS s (a, false) = (⟨#[]⟩, (a, true)) by intro c hG; unfold txtS; simp only [Bool.false_eq_true, if_false, hG])
  have HX := mkHid (txtS_yes s a)
  clear h
  cases hG : T s (a : Int) with
  | error c =>
    have hc : c ≠ 0 := T_code hG
    have hc' : (c != 0) = true := by simpa using hc
    rw [hG] at HN
    cases f with
    | true =>
      rw [HV.out]
      clear HV HW HX hG
      go_enter Try.func85, Try.ntmps85
      go_wp2_with fail
      go_region_held3 (fun w' => w'.cell? ⟨g, 0, none⟩ = some (.string s) ∧ w'.cell? ⟨g, 1, none⟩ = some (.int .i64 (a : Int)) ∧ w'.cell? ⟨g, 2, none⟩ = some (.bool true)) (go_keep)
        ((go_at_call 103; refine Calls.mono (HN.out _) ?_; rintro e w1 ⟨rfl, hb1⟩; (first
          | (have r1 := re (w := w) hb1 rfl rfl rfl rfl; have R1 := mkHid (R0.out.next r1); obtain ⟨d0, d1, d2⟩ := rdO_cells R1.out.at_; have e0 := World.new_ne w1 ⟨g, 0, none⟩ d0; have e1 := World.new_ne w1 ⟨g, 1, none⟩ d1; have e2 := World.new_ne w1 ⟨g, 2, none⟩ d2; clear hb1 r1)
          | (have r1 := re (w := w.alloc (.cells #[.string ⟨#[]⟩, .int .i64 0, .int .i64 0] 130)) hb1 rfl rfl rfl rfl; have R1 := mkHid ((R0.out.next (below_alloc1 w _)).next r1); obtain ⟨d0, d1, d2⟩ := rdO_cells R1.out.at_; have b1 := blk_below (blk_new w (.cells #[.string ⟨#[]⟩, .int .i64 0, .int .i64 0] 130) w.heap.size rfl) r1; have u1 := unfrozen b1; obtain ⟨k0, k1, k2⟩ := cel3 b1; clear hb1 r1)); unfold tout))
      · have RB := mkHid (R1.out.next (below_alloc1 w1 (.cells #[.string ⟨#[]⟩, .int .i64 0, .int .i64 c] 130)))
        have QB := mkHid (blk_new w1 (.cells #[.string ⟨#[]⟩, .int .i64 0, .int .i64 c] 130) w1.heap.size rfl)
        clear d0 d1 d2 e0 e1 e2 c0 c1 c2 hK R1
        generalize w1.alloc (.cells #[.string ⟨#[]⟩, .int .i64 0, .int .i64 c] 130) = W at *
        obtain ⟨d0, d1, d2⟩ := rdO_cells RB.out.at_
        simp only at d1 d2
        obtain ⟨k0, k1, k2⟩ := cel3 QB.out
        have uf := unfrozen (show _ = some (Obj.cells _ _) from RB.out.at_)
        have F := mkHid RB.out.bad
        simp only at F
        clear RB QB R0 HN
        go_wp2
        go_ret
        exact ⟨rfl, F.out⟩
      · have Q := RPost.var R1.out b1 (.string ⟨#[]⟩) (.int .i64 0) (.int .i64 c)
        clear d0 d1 d2 k0 k1 k2 u1 b1 c0 c1 c2 hK
        generalize ((w1.setCell ⟨w.heap.size, 0, none⟩ (.string ⟨#[]⟩)).setCell ⟨w.heap.size, 1, none⟩ (.int .i64 0)).setCell ⟨w.heap.size, 2, none⟩ (.int .i64 c) = W at *
        have RB := mkHid Q.1
        have QB := mkHid Q.2
        clear Q R1
        obtain ⟨d0, d1, d2⟩ := rdO_cells RB.out.at_
        simp only at d1 d2
        obtain ⟨k0, k1, k2⟩ := cel3 QB.out
        have uf := unfrozen (show _ = some (Obj.cells _ _) from RB.out.at_)
        have F := mkHid RB.out.bad
        simp only at F
        clear RB QB R0 HN
        go_wp2
        go_ret
        exact ⟨rfl, F.out⟩
    | false =>
      rw [HW.out c hG]
      clear HV HW HX hG
      go_enter Try.func85, Try.ntmps85
      go_wp2_with fail
      go_region_held3 (fun w' => w'.cell? ⟨g, 0, none⟩ = some (.string s) ∧ w'.cell? ⟨g, 1, none⟩ = some (.int .i64 (a : Int)) ∧ w'.cell? ⟨g, 2, none⟩ = some (.bool false)) (go_keep)
        ((go_at_call 103; refine Calls.mono (HN.out _) ?_; rintro e w1 ⟨rfl, hb1⟩; (first
          | (have r1 := re (w := w) hb1 rfl rfl rfl rfl; have R1 := mkHid (R0.out.next r1); obtain ⟨d0, d1, d2⟩ := rdO_cells R1.out.at_; have e0 := World.new_ne w1 ⟨g, 0, none⟩ d0; have e1 := World.new_ne w1 ⟨g, 1, none⟩ d1; have e2 := World.new_ne w1 ⟨g, 2, none⟩ d2; clear hb1 r1)
          | (have r1 := re (w := w.alloc (.cells #[.string ⟨#[]⟩, .int .i64 0, .int .i64 0] 130)) hb1 rfl rfl rfl rfl; have R1 := mkHid ((R0.out.next (below_alloc1 w _)).next r1); obtain ⟨d0, d1, d2⟩ := rdO_cells R1.out.at_; have b1 := blk_below (blk_new w (.cells #[.string ⟨#[]⟩, .int .i64 0, .int .i64 0] 130) w.heap.size rfl) r1; have u1 := unfrozen b1; obtain ⟨k0, k1, k2⟩ := cel3 b1; clear hb1 r1)); unfold tout))
      · have RB := mkHid (R1.out.next (below_alloc1 w1 (.cells #[.string ⟨#[]⟩, .int .i64 0, .int .i64 c] 130)))
        have QB := mkHid (blk_new w1 (.cells #[.string ⟨#[]⟩, .int .i64 0, .int .i64 c] 130) w1.heap.size rfl)
        clear d0 d1 d2 e0 e1 e2 c0 c1 c2 hK R1
        generalize w1.alloc (.cells #[.string ⟨#[]⟩, .int .i64 0, .int .i64 c] 130) = W at *
        obtain ⟨d0, d1, d2⟩ := rdO_cells RB.out.at_
        simp only at d1 d2
        obtain ⟨k0, k1, k2⟩ := cel3 QB.out
        have uf := unfrozen (show _ = some (Obj.cells _ _) from RB.out.at_)
        have F := mkHid RB.out.bad
        simp only at F
        clear RB QB R0 HN
        go_wp2
        go_ret
        exact ⟨rfl, F.out⟩
      · have Q := RPost.var R1.out b1 (.string ⟨#[]⟩) (.int .i64 0) (.int .i64 c)
        clear d0 d1 d2 k0 k1 k2 u1 b1 c0 c1 c2 hK
        generalize ((w1.setCell ⟨w.heap.size, 0, none⟩ (.string ⟨#[]⟩)).setCell ⟨w.heap.size, 1, none⟩ (.int .i64 0)).setCell ⟨w.heap.size, 2, none⟩ (.int .i64 c) = W at *
        have RB := mkHid Q.1
        have QB := mkHid Q.2
        clear Q R1
        obtain ⟨d0, d1, d2⟩ := rdO_cells RB.out.at_
        simp only at d1 d2
        obtain ⟨k0, k1, k2⟩ := cel3 QB.out
        have uf := unfrozen (show _ = some (Obj.cells _ _) from RB.out.at_)
        have F := mkHid RB.out.bad
        simp only at F
        clear RB QB R0 HN
        go_wp2
        go_ret
        exact ⟨rfl, F.out⟩
  | ok r =>
    obtain ⟨n, p⟩ := r
    obtain ⟨P, rfl, hP, hE⟩ := HX.out n p hG
    have hPi : (P : Int) ≤ 20000 := by omega
    rw [hG] at HN
    cases f with
    | true =>
      rw [HV.out]
      clear HV HW HX hG hE
      go_enter Try.func85, Try.ntmps85
      go_wp2_with fail
      go_region_held3 (fun w' => w'.cell? ⟨g, 0, none⟩ = some (.string s) ∧ w'.cell? ⟨g, 1, none⟩ = some (.int .i64 (a : Int)) ∧ w'.cell? ⟨g, 2, none⟩ = some (.bool true)) (go_keep)
        ((go_at_call 103; refine Calls.mono (HN.out _) ?_; rintro e w1 ⟨rfl, hb1⟩; (first
          | (have r1 := re (w := w) hb1 rfl rfl rfl rfl; have R1 := mkHid (R0.out.next r1); obtain ⟨d0, d1, d2⟩ := rdO_cells R1.out.at_; have e0 := World.new_ne w1 ⟨g, 0, none⟩ d0; have e1 := World.new_ne w1 ⟨g, 1, none⟩ d1; have e2 := World.new_ne w1 ⟨g, 2, none⟩ d2; clear hb1 r1)
          | (have r1 := re (w := w.alloc (.cells #[.string ⟨#[]⟩, .int .i64 0, .int .i64 0] 130)) hb1 rfl rfl rfl rfl; have R1 := mkHid ((R0.out.next (below_alloc1 w _)).next r1); obtain ⟨d0, d1, d2⟩ := rdO_cells R1.out.at_; have b1 := blk_below (blk_new w (.cells #[.string ⟨#[]⟩, .int .i64 0, .int .i64 0] 130) w.heap.size rfl) r1; have u1 := unfrozen b1; obtain ⟨k0, k1, k2⟩ := cel3 b1; clear hb1 r1)); unfold tout))
      · have RB := mkHid (R1.out.next (below_alloc1 w1 (.cells #[.string n, .int .i64 (P : Int), .int .i64 0] 130)))
        have QB := mkHid (blk_new w1 (.cells #[.string n, .int .i64 (P : Int), .int .i64 0] 130) w1.heap.size rfl)
        clear d0 d1 d2 e0 e1 e2 c0 c1 c2 hK R1
        generalize w1.alloc (.cells #[.string n, .int .i64 (P : Int), .int .i64 0] 130) = W at *
        obtain ⟨d0, d1, d2⟩ := rdO_cells RB.out.at_
        simp only at d1 d2
        obtain ⟨k0, k1, k2⟩ := cel3 QB.out
        have uf := unfrozen (show _ = some (Obj.cells _ _) from RB.out.at_)
        have F := mkHid RB.out.bad
        simp only at F
        clear RB QB R0 HN
        go_wp2
        go_ret
        exact ⟨rfl, F.out⟩
      · have Q := RPost.var R1.out b1 (.string n) (.int .i64 (P : Int)) (.int .i64 0)
        clear d0 d1 d2 k0 k1 k2 u1 b1 c0 c1 c2 hK
        generalize ((w1.setCell ⟨w.heap.size, 0, none⟩ (.string n)).setCell ⟨w.heap.size, 1, none⟩ (.int .i64 (P : Int))).setCell ⟨w.heap.size, 2, none⟩ (.int .i64 0) = W at *
        have RB := mkHid Q.1
        have QB := mkHid Q.2
        clear Q R1
        obtain ⟨d0, d1, d2⟩ := rdO_cells RB.out.at_
        simp only at d1 d2
        obtain ⟨k0, k1, k2⟩ := cel3 QB.out
        have uf := unfrozen (show _ = some (Obj.cells _ _) from RB.out.at_)
        have F := mkHid RB.out.bad
        simp only at F
        clear RB QB R0 HN
        go_wp2
        go_ret
        exact ⟨rfl, F.out⟩
    | false =>
      rw [hE]
      clear HV HW HX hG hE
      go_enter Try.func85, Try.ntmps85
      go_wp2_with fail
      go_region_held3 (fun w' => w'.cell? ⟨g, 0, none⟩ = some (.string s) ∧ w'.cell? ⟨g, 1, none⟩ = some (.int .i64 (a : Int)) ∧ w'.cell? ⟨g, 2, none⟩ = some (.bool false)) (go_keep)
        ((go_at_call 103; refine Calls.mono (HN.out _) ?_; rintro e w1 ⟨rfl, hb1⟩; (first
          | (have r1 := re (w := w) hb1 rfl rfl rfl rfl; have R1 := mkHid (R0.out.next r1); obtain ⟨d0, d1, d2⟩ := rdO_cells R1.out.at_; have e0 := World.new_ne w1 ⟨g, 0, none⟩ d0; have e1 := World.new_ne w1 ⟨g, 1, none⟩ d1; have e2 := World.new_ne w1 ⟨g, 2, none⟩ d2; clear hb1 r1)
          | (have r1 := re (w := w.alloc (.cells #[.string ⟨#[]⟩, .int .i64 0, .int .i64 0] 130)) hb1 rfl rfl rfl rfl; have R1 := mkHid ((R0.out.next (below_alloc1 w _)).next r1); obtain ⟨d0, d1, d2⟩ := rdO_cells R1.out.at_; have b1 := blk_below (blk_new w (.cells #[.string ⟨#[]⟩, .int .i64 0, .int .i64 0] 130) w.heap.size rfl) r1; have u1 := unfrozen b1; obtain ⟨k0, k1, k2⟩ := cel3 b1; clear hb1 r1)); unfold tout))
      · have RB := mkHid (R1.out.next (below_alloc1 w1 (.cells #[.string n, .int .i64 (P : Int), .int .i64 0] 130)))
        have QB := mkHid (blk_new w1 (.cells #[.string n, .int .i64 (P : Int), .int .i64 0] 130) w1.heap.size rfl)
        clear d0 d1 d2 e0 e1 e2 c0 c1 c2 hK R1
        generalize w1.alloc (.cells #[.string n, .int .i64 (P : Int), .int .i64 0] 130) = W at *
        obtain ⟨d0, d1, d2⟩ := rdO_cells RB.out.at_
        simp only at d1 d2
        obtain ⟨k0, k1, k2⟩ := cel3 QB.out
        have uf := unfrozen (show _ = some (Obj.cells _ _) from RB.out.at_)
        have F := mkHid (RB.out.to P)
        simp only at F
        clear RB QB R0 HN
        go_wp2
        go_ret
        exact ⟨rfl, F.out⟩
      · have Q := RPost.var R1.out b1 (.string n) (.int .i64 (P : Int)) (.int .i64 0)
        clear d0 d1 d2 k0 k1 k2 u1 b1 c0 c1 c2 hK
        generalize ((w1.setCell ⟨w.heap.size, 0, none⟩ (.string n)).setCell ⟨w.heap.size, 1, none⟩ (.int .i64 (P : Int))).setCell ⟨w.heap.size, 2, none⟩ (.int .i64 0) = W at *
        have RB := mkHid Q.1
        have QB := mkHid Q.2
        clear Q R1
        obtain ⟨d0, d1, d2⟩ := rdO_cells RB.out.at_
        simp only at d1 d2
        obtain ⟨k0, k1, k2⟩ := cel3 QB.out
        have uf := unfrozen (show _ = some (Obj.cells _ _) from RB.out.at_)
        have F := mkHid (RB.out.to P)
        simp only at F
        clear RB QB R0 HN
        go_wp2
        go_ret
        exact ⟨rfl, F.out⟩
end Go.Proofs.Ytlcdbkelonbcfaa.plc
