/-
  spec.GetText answers what 'T' says. No condition but that the text has at most 1,048,576 bytes.
  What the specification's reader of places answers and leaves. Conditions: a text of at most 20,000 bytes, a place within it.
  What the specification's reader of places answers for 32 bytes, and what it reads of a place. Conditions: a text of at most 20,000 bytes, a place within it.
-/
import Derived.Test.YtmmmadehifajlaaTextP
import Derived.Test.YtmmmadehifajlaaRrP
import Derived.Test.YtmmmadehifajlaaRwPlace
import Derived.Laws.DeepStrings4
import Derived.Deep.RegionHeld3
namespace Go.Proofs.Ytmmmadehifajlaa.num
open Go.RowKit
set_option linter.unusedVariables false

theorem spec_all (s : ByteArray) (a : Int) (w : World) (hs : s.size ≤ 1048576) (h1 : -9223372036854775808 ≤ a) (h2 : a ≤ 9223372036854775807) :
    Calls Try.prog 71 #[.string s, .int .i64 a] w fun e w' => e = .returned (out (G s a)) ∧ Below w.heap.size w w' := by
  by_cases hb : 20000 < s.size
  · exact spec_big s a w hb hs
  by_cases hn : a < 0
  · exact spec_neg s a w (by omega) hn
  · obtain ⟨k, rfl⟩ := Int.eq_ofNat_of_zero_le (show 0 ≤ a by omega)
    exact spec_any s k w (by omega) h2
set_option maxRecDepth 100000 in
set_option maxHeartbeats 1000000 in
theorem stext_any (s : ByteArray) (a : Int) (w : World) (hs : s.size ≤ 1048576) (h1 : -9223372036854775808 ≤ a) (h2 : a ≤ 9223372036854775807) :
    Calls Try.prog 72 #[.string s, .int .i64 a] w fun e w' => e = .returned (tout (T s a)) ∧ Below w.heap.size w w' := by
  have HS := mkHid (fun wx => spec_all s a wx hs h1 h2)
  clear h1 h2
  cases hG : G s a with
  | error c =>
    rw [T_err hG]
    rw [hG] at HS
    have hc := G_code hG
    clear hG
    have hc' : (c != 0) = true := by simp; omega
    unfold out at HS
    go_enter Try.func72, Try.ntmps72
    go_wp2_with fail
    refine (HS.out _).mono ?_
    rintro e w1 ⟨rfl, hb1⟩
    have hz := hb1.size
    simp only [World.size_alloc] at hz
    have c0 : w1.cell? ⟨w.heap.size, 0, none⟩ = some (.string ⟨#[]⟩) := (hb1.cell (by simp)).trans (by simp)
    have c1 : w1.cell? ⟨w.heap.size, 1, none⟩ = some (.int .i64 0) := (hb1.cell (by simp)).trans (by simp)
    have c2 : w1.cell? ⟨w.heap.size, 2, none⟩ = some (.int .i64 0) := (hb1.cell (by simp)).trans (by simp)
    have hf : ∀ j, w1.frozen? ⟨w.heap.size, j, none⟩ = false := fun j => (hb1.frozen (by simp)).trans (by simp)
    have hlt : w.heap.size < w1.heap.size := by omega
    have hB := mkHid (((Below.refl w.heap.size w).alloc (Nat.le_refl _) (.cells #[.string ⟨#[]⟩, .int .i64 0, .int .i64 0] 110)).trans (hb1.mono (by simp)))
    clear hb1 hz

    go_wp2
    exact bodyPost_ret (v := .agg #[.string ⟨#[]⟩, .int .i64 0, .int .i64 c]) (by simp [results, Try.results72, go_sem, c0, c1, c2, hlt]) rfl ⟨rfl, by repeat (first | exact hB.out | refine Below.setCell ?_ (by simp) _ | refine Below.alloc ?_ (by simp; omega) _ | refine Below.drew ?_)⟩
  | ok r =>
    obtain ⟨n, p⟩ := r
    have hp := G_pos hG
    obtain ⟨hs2, ha0, hp1, hp2⟩ := hp
    rw [hG] at HS
    unfold out at HS
    by_cases hn : n < 0 ∨ 20000 < n
    · rw [T_three hG hn]
      clear hG
      rcases hn with hn | hn
      all_goals
        go_enter Try.func72, Try.ntmps72
        go_wp2_with fail
        refine (HS.out _).mono ?_
        rintro e w1 ⟨rfl, hb1⟩
        have hz := hb1.size
        simp only [World.size_alloc] at hz
        have c0 : w1.cell? ⟨w.heap.size, 0, none⟩ = some (.string ⟨#[]⟩) := (hb1.cell (by simp)).trans (by simp)
        have c1 : w1.cell? ⟨w.heap.size, 1, none⟩ = some (.int .i64 0) := (hb1.cell (by simp)).trans (by simp)
        have c2 : w1.cell? ⟨w.heap.size, 2, none⟩ = some (.int .i64 0) := (hb1.cell (by simp)).trans (by simp)
        have hf : ∀ j, w1.frozen? ⟨w.heap.size, j, none⟩ = false := fun j => (hb1.frozen (by simp)).trans (by simp)
        have hlt : w.heap.size < w1.heap.size := by omega
        have hB := mkHid (((Below.refl w.heap.size w).alloc (Nat.le_refl _) (.cells #[.string ⟨#[]⟩, .int .i64 0, .int .i64 0] 110)).trans (hb1.mono (by simp)))
        clear hb1 hz

        go_wp2
        exact bodyPost_ret (v := .agg #[.string ⟨#[]⟩, .int .i64 0, .int .i64 3]) (by simp [results, Try.results72, go_sem, c0, c1, c2, hlt]) rfl ⟨rfl, by repeat (first | exact hB.out | refine Below.setCell ?_ (by simp) _ | refine Below.alloc ?_ (by simp; omega) _ | refine Below.drew ?_)⟩
    · have hn0 : 0 ≤ n := by omega
      have hn1 : n ≤ 20000 := by omega
      by_cases hq : (s.size : Int) - n < p
      · rw [T_four hG hn hq]
        clear hG hn
        go_enter Try.func72, Try.ntmps72
        go_wp2_with fail
        refine (HS.out _).mono ?_
        rintro e w1 ⟨rfl, hb1⟩
        have hz := hb1.size
        simp only [World.size_alloc] at hz
        have c0 : w1.cell? ⟨w.heap.size, 0, none⟩ = some (.string ⟨#[]⟩) := (hb1.cell (by simp)).trans (by simp)
        have c1 : w1.cell? ⟨w.heap.size, 1, none⟩ = some (.int .i64 0) := (hb1.cell (by simp)).trans (by simp)
        have c2 : w1.cell? ⟨w.heap.size, 2, none⟩ = some (.int .i64 0) := (hb1.cell (by simp)).trans (by simp)
        have hf : ∀ j, w1.frozen? ⟨w.heap.size, j, none⟩ = false := fun j => (hb1.frozen (by simp)).trans (by simp)
        have hlt : w.heap.size < w1.heap.size := by omega
        have hB := mkHid (((Below.refl w.heap.size w).alloc (Nat.le_refl _) (.cells #[.string ⟨#[]⟩, .int .i64 0, .int .i64 0] 110)).trans (hb1.mono (by simp)))
        clear hb1 hz

        go_wp2
        exact bodyPost_ret (v := .agg #[.string ⟨#[]⟩, .int .i64 0, .int .i64 4]) (by simp [results, Try.results72, go_sem, c0, c1, c2, hlt]) rfl ⟨rfl, by repeat (first | exact hB.out | refine Below.setCell ?_ (by simp) _ | refine Below.alloc ?_ (by simp; omega) _ | refine Below.drew ?_)⟩
      · rw [T_ok hG hn hq]
        clear hG hn
        have hq1 : p ≤ (s.size : Int) - n := by omega
        have hq2 : p + n ≤ (s.size : Int) := by omega
        have hp0 : 0 ≤ p := by omega
        have hsl : ∀ wx, (Instr.slice 9 (.string s) (some (.int .i64 p)) (some (.int .i64 (p + n))) none).run Try.prog wx = .ok (.string (s.extract p.toNat (p + n).toNat)) wx := fun wx => by
          rw [run_slice_string_if wx 9 s .i64 .i64 p (p + n) Try.underlying9, if_pos ⟨by omega, by omega⟩, if_pos ⟨by omega, by omega⟩]
        have hwr : IntKind.i64.wrap (p + n) = p + n := by simp [IntKind.wrap, IntKind.bits, IntKind.signed]; omega
        go_enter Try.func72, Try.ntmps72
        go_wp2_with fail
        refine (HS.out _).mono ?_
        rintro e w1 ⟨rfl, hb1⟩
        have hz := hb1.size
        simp only [World.size_alloc] at hz
        have c0 : w1.cell? ⟨w.heap.size, 0, none⟩ = some (.string ⟨#[]⟩) := (hb1.cell (by simp)).trans (by simp)
        have c1 : w1.cell? ⟨w.heap.size, 1, none⟩ = some (.int .i64 0) := (hb1.cell (by simp)).trans (by simp)
        have c2 : w1.cell? ⟨w.heap.size, 2, none⟩ = some (.int .i64 0) := (hb1.cell (by simp)).trans (by simp)
        have hf : ∀ j, w1.frozen? ⟨w.heap.size, j, none⟩ = false := fun j => (hb1.frozen (by simp)).trans (by simp)
        have hlt : w.heap.size < w1.heap.size := by omega
        have hB := mkHid (((Below.refl w.heap.size w).alloc (Nat.le_refl _) (.cells #[.string ⟨#[]⟩, .int .i64 0, .int .i64 0] 110)).trans (hb1.mono (by simp)))
        clear hb1 hz

        go_wp2
        go_region
        all_goals go_wp2
        all_goals exact bodyPost_ret (v := .agg #[.string (s.extract p.toNat (p + n).toNat), .int .i64 (p + n), .int .i64 0]) (by simp [results, Try.results72, go_sem, c0, c1, c2, hlt]) rfl ⟨rfl, by repeat (first | exact hB.out | refine Below.setCell ?_ (by simp) _ | refine Below.alloc ?_ (by simp; omega) _ | refine Below.drew ?_)⟩

end Go.Proofs.Ytmmmadehifajlaa.num
namespace Go.Proofs.Ytmmmadehifajlaa.plc
open Go.RowKit Go.Joins
open Go.Proofs.Ytmmmadehifajlaa.base Go.Proofs.Ytmmmadehifajlaa.blk Go.Proofs.Ytmmmadehifajlaa.aid
open Go.Proofs.Ytmmmadehifajlaa.num (G T out tout)
set_option linter.unusedVariables false
set_option linter.unusedSimpArgs false

def rdO (s : ByteArray) (st : St) : Obj := .cells #[.string s, .int .i64 (st.1 : Int), .bool st.2] 72
theorem rdO_cells {w : World} {g : Nat} {s : ByteArray} {st : St} (h : w.heap[g]? = some (rdO s st)) : w.cell? ⟨g, 0, none⟩ = some (.string s) ∧ w.cell? ⟨g, 1, none⟩ = some (.int .i64 (st.1 : Int)) ∧ w.cell? ⟨g, 2, none⟩ = some (.bool st.2) := by
  unfold rdO at h
  simp [World.cell?, h]
theorem rdO_at {w : World} {g : Nat} {s : ByteArray} {st : St} (h : w.heap[g]? = some (rdO s st)) (b : Nat) : (w.setCell ⟨g, 1, none⟩ (.int .i64 (b : Int))).heap[g]? = some (rdO s (b, st.2)) := by
  unfold rdO at *
  exact heap_setCell_same w g 1 _ _ _ h
theorem rdO_bad {w : World} {g : Nat} {s : ByteArray} {st : St} (h : w.heap[g]? = some (rdO s st)) : (w.setCell ⟨g, 2, none⟩ (.bool true)).heap[g]? = some (rdO s (st.1, true)) := by
  unfold rdO at *
  exact heap_setCell_same w g 2 _ _ _ h
/-- the reader stands there behind a call, nothing else has changed -/
structure RPost (w : World) (g : Nat) (s : ByteArray) (st : St) (w' : World) : Prop where
  at_ : w'.heap[g]? = some (rdO s st)
  grew : w.grownBy w' (some g)
theorem RPost.start {w : World} {g : Nat} {s : ByteArray} {st : St} (h : w.heap[g]? = some (rdO s st)) : RPost w g s st w := ⟨h, grew_refl _ _⟩
theorem RPost.next {w w1 w' : World} {g : Nat} {s : ByteArray} {st : St} (h : RPost w g s st w1) (hb : Below w1.heap.size w1 w') : RPost w g s st w' :=
  ⟨blk_below h.at_ hb, World.grownBy.andThen (row := some g) h.grew (below_grew hb (some g)) (fun j hj => .inr hj)⟩
theorem RPost.then {w w1 w' : World} {g : Nat} {s : ByteArray} {st st' : St} (h : RPost w g s st w1) (h2 : RPost w1 g s st' w') : RPost w g s st' w' :=
  ⟨h2.at_, World.grownBy.andThen (row := some g) h.grew h2.grew (fun j hj => .inr hj)⟩
theorem RPost.bad {w w1 : World} {g : Nat} {s : ByteArray} {st : St} (h : RPost w g s st w1) : RPost w g s (st.1, true) (w1.setCell ⟨g, 2, none⟩ (.bool true)) :=
  ⟨rdO_bad h.at_, World.grownBy.andThen (row := some g) h.grew (grew_cell w1 g 2 _) (fun j hj => .inr hj)⟩
theorem RPost.to {w w1 : World} {g : Nat} {s : ByteArray} {st : St} (h : RPost w g s st w1) (b : Nat) : RPost w g s (b, st.2) (w1.setCell ⟨g, 1, none⟩ (.int .i64 (b : Int))) :=
  ⟨rdO_at h.at_ b, World.grownBy.andThen (row := some g) h.grew (grew_cell w1 g 1 _) (fun j hj => .inr hj)⟩
theorem RPost.var {w w1 : World} {g : Nat} {s : ByteArray} {st : St} {T : TypeId} {x0 x1 x2 : Value} (h : RPost w g s st w1) (hb : w1.heap[w.heap.size]? = some (.cells #[x0, x1, x2] T)) (u0 u1 u2 : Value) (hg : g < w.heap.size := by omega) :
    RPost w g s st (((w1.setCell ⟨w.heap.size, 0, none⟩ u0).setCell ⟨w.heap.size, 1, none⟩ u1).setCell ⟨w.heap.size, 2, none⟩ u2) ∧ (((w1.setCell ⟨w.heap.size, 0, none⟩ u0).setCell ⟨w.heap.size, 1, none⟩ u1).setCell ⟨w.heap.size, 2, none⟩ u2).heap[w.heap.size]? = some (.cells #[u0, u1, u2] T) := by
  have hne : g ≠ w.heap.size := by omega
  refine ⟨⟨?_, ?_⟩, ?_⟩
  · exact blk_set (blk_set (blk_set h.at_ _ _ hne) _ _ hne) _ _ hne
  · refine World.grownBy.andThen (row := some g) (row' := some w.heap.size) h.grew ?_ (fun j hj => .inl (by cases hj; exact Nat.le_refl _))
    exact World.grownBy.andThen (row := some w.heap.size) (World.grownBy.andThen (row := some w.heap.size) (grew_cell w1 _ 0 u0) (grew_cell _ _ 1 u1) (fun j hj => .inr hj)) (grew_cell _ _ 2 u2) (fun j hj => .inr hj)
  · have e1 : (w1.setCell ⟨w.heap.size, 0, none⟩ u0).heap[w.heap.size]? = some (.cells #[u0, x1, x2] T) := heap_setCell_same w1 w.heap.size 0 _ _ _ hb
    have e2 : ((w1.setCell ⟨w.heap.size, 0, none⟩ u0).setCell ⟨w.heap.size, 1, none⟩ u1).heap[w.heap.size]? = some (.cells #[u0, u1, x2] T) := heap_setCell_same _ w.heap.size 1 _ _ _ e1
    exact heap_setCell_same _ w.heap.size 2 _ _ _ e2
theorem T_code {s : ByteArray} {a c : Int} (h : T s a = .error c) : c ≠ 0 := by
  unfold T at h
  cases hG : G s a with
  | error d => rw [hG] at h; cases h; exact nbk.G_code hG
  | ok r =>
    rw [hG] at h
    obtain ⟨n, p⟩ := r
    simp only at h
    split at h
    · cases h; decide
    · split at h
      · cases h; decide
      · cases h
theorem numS_yes (s : ByteArray) (a : Nat) (n p : Int) (hG : G s (a : Int) = .ok (n, p)) : ∃ P : Nat, p = (P : Int) ∧ P ≤ s.size ∧ numS s (a, false) = (n, (P, false)) := by
  obtain ⟨P, rfl, _, h2, _⟩ := nbk.G_nat hG
  refine ⟨P, rfl, h2, ?_⟩
  unfold numS
  simp only [Bool.false_eq_true, if_false, hG]
  simp
theorem txtS_yes (s : ByteArray) (a : Nat) (t : ByteArray) (p : Int) (hT : T s (a : Int) = .ok (t, p)) : ∃ P : Nat, p = (P : Int) ∧ P ≤ s.size ∧ txtS s (a, false) = (t, (P, false)) := by
  have e : txtS s (a, false) = (t, (p.toNat, false)) := by
    unfold txtS
    simp only [Bool.false_eq_true, if_false, hT]
  obtain ⟨_, h2, _, h4, _⟩ := txtS_ok e
  have h2' : T s (a : Int) = .ok (t, ((p.toNat : Nat) : Int)) := h2
  rw [hT] at h2'
  simp only [Except.ok.injEq, Prod.mk.injEq, true_and] at h2'
  exact ⟨p.toNat, h2', h4, e⟩
set_option maxRecDepth 100000 in
set_option maxHeartbeats 2000000 in
theorem num_any (g : Nat) (s : ByteArray) (st : St) (w : World) (h : w.heap[g]? = some (rdO s st)) (hs : s.size ≤ 20000) (ha : st.1 ≤ 20000) :
    Calls Try.prog 41 #[.pointer (some ⟨g, 0, none⟩)] w fun e w' => e = .returned (.int .i64 (numS s st).1) ∧ RPost w g s (numS s st).2 w' := by
  obtain ⟨a, f⟩ := st
  have HN := mkHid (fun wx => num.spec_any s a wx hs (by omega))
  have R0 := mkHid (RPost.start h)
  obtain ⟨c0, c1, c2⟩ := rdO_cells h
  simp only at c1 c2 ha
  have hlt := (Array.getElem?_eq_some_iff.1 h).1
  have hK : ∀ (W : World) (u0 u1 u2 : Value) (j : Nat), (((W.setCell ⟨w.heap.size, 0, none⟩ u0).setCell ⟨w.heap.size, 1, none⟩ u1).setCell ⟨w.heap.size, 2, none⟩ u2).cell? ⟨g, j, none⟩ = W.cell? ⟨g, j, none⟩ := fun W u0 u1 u2 j => by
    have e : ∀ (V : World) (p : Addr) (u : Value), p.block = w.heap.size → (V.setCell p u).cell? ⟨g, j, none⟩ = V.cell? ⟨g, j, none⟩ := fun V p u hp => by
      unfold World.cell?
      rw [Below.heap_setCell V p u g (by omega)]
    rw [e _ _ _ rfl, e _ _ _ rfl, e _ _ _ rfl]
  have HV := mkHid (numS_bad s a)
  have HW := mkHid (show ∀ c, G s (a : Int) = .error c → numS s (a, false) = (0, (a, true)) by intro c hG; unfold numS; simp only [Bool.false_eq_true, if_false, hG])
  have HX := mkHid (numS_yes s a)
  clear h
  cases hG : G s (a : Int) with
  | error c =>
    have hc : c ≠ 0 := nbk.G_code hG
    have hc' : (c != 0) = true := by simpa using hc
    rw [hG] at HN
    cases f with
    | true =>
      rw [HV.out]
      clear HV HW HX hG
      go_enter Try.func41, Try.ntmps41
      go_wp2_with fail
      go_region_held3 (fun w' => w'.cell? ⟨g, 0, none⟩ = some (.string s) ∧ w'.cell? ⟨g, 1, none⟩ = some (.int .i64 (a : Int)) ∧ w'.cell? ⟨g, 2, none⟩ = some (.bool true)) (go_keep)
        ((go_at_call 71; refine Calls.mono (HN.out _) ?_; rintro e w1 ⟨rfl, hb1⟩; (first
          | (have r1 := re (w := w) hb1 rfl rfl rfl rfl; have R1 := mkHid (R0.out.next r1); obtain ⟨d0, d1, d2⟩ := rdO_cells R1.out.at_; have e0 := World.new_ne w1 ⟨g, 0, none⟩ d0; have e1 := World.new_ne w1 ⟨g, 1, none⟩ d1; have e2 := World.new_ne w1 ⟨g, 2, none⟩ d2; clear hb1 r1)
          | (have r1 := re (w := w.alloc (.cells #[.int .i64 0, .int .i64 0, .int .i64 0] 107)) hb1 rfl rfl rfl rfl; have R1 := mkHid ((R0.out.next (below_alloc1 w _)).next r1); obtain ⟨d0, d1, d2⟩ := rdO_cells R1.out.at_; have b1 := blk_below (blk_new w (.cells #[.int .i64 0, .int .i64 0, .int .i64 0] 107) w.heap.size rfl) r1; have u1 := unfrozen b1; obtain ⟨k0, k1, k2⟩ := cel3 b1; clear hb1 r1)); unfold out))
      · have RB := mkHid (R1.out.next (below_alloc1 w1 (.cells #[.int .i64 0, .int .i64 0, .int .i64 c] 107)))
        have QB := mkHid (blk_new w1 (.cells #[.int .i64 0, .int .i64 0, .int .i64 c] 107) w1.heap.size rfl)
        clear d0 d1 d2 e0 e1 e2 c0 c1 c2 hK R1
        generalize w1.alloc (.cells #[.int .i64 0, .int .i64 0, .int .i64 c] 107) = W at *
        obtain ⟨d0, d1, d2⟩ := rdO_cells RB.out.at_
        simp only at d1 d2
        obtain ⟨k0, k1, k2⟩ := cel3 QB.out
        have uf := unfrozen (show _ = some (Obj.cells _ _) from RB.out.at_)
        have F := mkHid RB.out.bad
        simp only at F
        clear RB QB R0 HN
        go_wp2
        go_ret
        exact ⟨rfl, F.out⟩
      · have Q := RPost.var R1.out b1 (.int .i64 0) (.int .i64 0) (.int .i64 c)
        clear d0 d1 d2 k0 k1 k2 u1 b1 c0 c1 c2 hK
        generalize ((w1.setCell ⟨w.heap.size, 0, none⟩ (.int .i64 0)).setCell ⟨w.heap.size, 1, none⟩ (.int .i64 0)).setCell ⟨w.heap.size, 2, none⟩ (.int .i64 c) = W at *
        have RB := mkHid Q.1
        have QB := mkHid Q.2
        clear Q R1
        obtain ⟨d0, d1, d2⟩ := rdO_cells RB.out.at_
        simp only at d1 d2
        obtain ⟨k0, k1, k2⟩ := cel3 QB.out
        have uf := unfrozen (show _ = some (Obj.cells _ _) from RB.out.at_)
        have F := mkHid RB.out.bad
        simp only at F
        clear RB QB R0 HN
        go_wp2
        go_ret
        exact ⟨rfl, F.out⟩
    | false =>
      rw [HW.out c hG]
      clear HV HW HX hG
      go_enter Try.func41, Try.ntmps41
      go_wp2_with fail
      go_region_held3 (fun w' => w'.cell? ⟨g, 0, none⟩ = some (.string s) ∧ w'.cell? ⟨g, 1, none⟩ = some (.int .i64 (a : Int)) ∧ w'.cell? ⟨g, 2, none⟩ = some (.bool false)) (go_keep)
        ((go_at_call 71; refine Calls.mono (HN.out _) ?_; rintro e w1 ⟨rfl, hb1⟩; (first
          | (have r1 := re (w := w) hb1 rfl rfl rfl rfl; have R1 := mkHid (R0.out.next r1); obtain ⟨d0, d1, d2⟩ := rdO_cells R1.out.at_; have e0 := World.new_ne w1 ⟨g, 0, none⟩ d0; have e1 := World.new_ne w1 ⟨g, 1, none⟩ d1; have e2 := World.new_ne w1 ⟨g, 2, none⟩ d2; clear hb1 r1)
          | (have r1 := re (w := w.alloc (.cells #[.int .i64 0, .int .i64 0, .int .i64 0] 107)) hb1 rfl rfl rfl rfl; have R1 := mkHid ((R0.out.next (below_alloc1 w _)).next r1); obtain ⟨d0, d1, d2⟩ := rdO_cells R1.out.at_; have b1 := blk_below (blk_new w (.cells #[.int .i64 0, .int .i64 0, .int .i64 0] 107) w.heap.size rfl) r1; have u1 := unfrozen b1; obtain ⟨k0, k1, k2⟩ := cel3 b1; clear hb1 r1)); unfold out))
      · have RB := mkHid (R1.out.next (below_alloc1 w1 (.cells #[.int .i64 0, .int .i64 0, .int .i64 c] 107)))
        have QB := mkHid (blk_new w1 (.cells #[.int .i64 0, .int .i64 0, .int .i64 c] 107) w1.heap.size rfl)
        clear d0 d1 d2 e0 e1 e2 c0 c1 c2 hK R1
        generalize w1.alloc (.cells #[.int .i64 0, .int .i64 0, .int .i64 c] 107) = W at *
        obtain ⟨d0, d1, d2⟩ := rdO_cells RB.out.at_
        simp only at d1 d2
        obtain ⟨k0, k1, k2⟩ := cel3 QB.out
        have uf := unfrozen (show _ = some (Obj.cells _ _) from RB.out.at_)
        have F := mkHid RB.out.bad
        simp only at F
        clear RB QB R0 HN
        go_wp2
        go_ret
        exact ⟨rfl, F.out⟩
      · have Q := RPost.var R1.out b1 (.int .i64 0) (.int .i64 0) (.int .i64 c)
        clear d0 d1 d2 k0 k1 k2 u1 b1 c0 c1 c2 hK
        generalize ((w1.setCell ⟨w.heap.size, 0, none⟩ (.int .i64 0)).setCell ⟨w.heap.size, 1, none⟩ (.int .i64 0)).setCell ⟨w.heap.size, 2, none⟩ (.int .i64 c) = W at *
        have RB := mkHid Q.1
        have QB := mkHid Q.2
        clear Q R1
        obtain ⟨d0, d1, d2⟩ := rdO_cells RB.out.at_
        simp only at d1 d2
        obtain ⟨k0, k1, k2⟩ := cel3 QB.out
        have uf := unfrozen (show _ = some (Obj.cells _ _) from RB.out.at_)
        have F := mkHid RB.out.bad
        simp only at F
        clear RB QB R0 HN
        go_wp2
        go_ret
        exact ⟨rfl, F.out⟩
  | ok r =>
    obtain ⟨n, p⟩ := r
    obtain ⟨P, rfl, hP, hE⟩ := HX.out n p hG
    have hPi : (P : Int) ≤ 20000 := by omega
    rw [hG] at HN
    cases f with
    | true =>
      rw [HV.out]
      clear HV HW HX hG hE
      go_enter Try.func41, Try.ntmps41
      go_wp2_with fail
      go_region_held3 (fun w' => w'.cell? ⟨g, 0, none⟩ = some (.string s) ∧ w'.cell? ⟨g, 1, none⟩ = some (.int .i64 (a : Int)) ∧ w'.cell? ⟨g, 2, none⟩ = some (.bool true)) (go_keep)
        ((go_at_call 71; refine Calls.mono (HN.out _) ?_; rintro e w1 ⟨rfl, hb1⟩; (first
          | (have r1 := re (w := w) hb1 rfl rfl rfl rfl; have R1 := mkHid (R0.out.next r1); obtain ⟨d0, d1, d2⟩ := rdO_cells R1.out.at_; have e0 := World.new_ne w1 ⟨g, 0, none⟩ d0; have e1 := World.new_ne w1 ⟨g, 1, none⟩ d1; have e2 := World.new_ne w1 ⟨g, 2, none⟩ d2; clear hb1 r1)
          | (have r1 := re (w := w.alloc (.cells #[.int .i64 0, .int .i64 0, .int .i64 0] 107)) hb1 rfl rfl rfl rfl; have R1 := mkHid ((R0.out.next (below_alloc1 w _)).next r1); obtain ⟨d0, d1, d2⟩ := rdO_cells R1.out.at_; have b1 := blk_below (blk_new w (.cells #[.int .i64 0, .int .i64 0, .int .i64 0] 107) w.heap.size rfl) r1; have u1 := unfrozen b1; obtain ⟨k0, k1, k2⟩ := cel3 b1; clear hb1 r1)); unfold out))
      · have RB := mkHid (R1.out.next (below_alloc1 w1 (.cells #[.int .i64 n, .int .i64 (P : Int), .int .i64 0] 107)))
        have QB := mkHid (blk_new w1 (.cells #[.int .i64 n, .int .i64 (P : Int), .int .i64 0] 107) w1.heap.size rfl)
        clear d0 d1 d2 e0 e1 e2 c0 c1 c2 hK R1
        generalize w1.alloc (.cells #[.int .i64 n, .int .i64 (P : Int), .int .i64 0] 107) = W at *
        obtain ⟨d0, d1, d2⟩ := rdO_cells RB.out.at_
        simp only at d1 d2
        obtain ⟨k0, k1, k2⟩ := cel3 QB.out
        have uf := unfrozen (show _ = some (Obj.cells _ _) from RB.out.at_)
        have F := mkHid RB.out.bad
        simp only at F
        clear RB QB R0 HN
        go_wp2
        go_ret
        exact ⟨rfl, F.out⟩
      · have Q := RPost.var R1.out b1 (.int .i64 n) (.int .i64 (P : Int)) (.int .i64 0)
        clear d0 d1 d2 k0 k1 k2 u1 b1 c0 c1 c2 hK
        generalize ((w1.setCell ⟨w.heap.size, 0, none⟩ (.int .i64 n)).setCell ⟨w.heap.size, 1, none⟩ (.int .i64 (P : Int))).setCell ⟨w.heap.size, 2, none⟩ (.int .i64 0) = W at *
        have RB := mkHid Q.1
        have QB := mkHid Q.2
        clear Q R1
        obtain ⟨d0, d1, d2⟩ := rdO_cells RB.out.at_
        simp only at d1 d2
        obtain ⟨k0, k1, k2⟩ := cel3 QB.out
        have uf := unfrozen (show _ = some (Obj.cells _ _) from RB.out.at_)
        have F := mkHid RB.out.bad
        simp only at F
        clear RB QB R0 HN
        go_wp2
        go_ret
        exact ⟨rfl, F.out⟩
    | false =>
      rw [hE]
      clear HV HW HX hG hE
      go_enter Try.func41, Try.ntmps41
      go_wp2_with fail
      go_region_held3 (fun w' => w'.cell? ⟨g, 0, none⟩ = some (.string s) ∧ w'.cell? ⟨g, 1, none⟩ = some (.int .i64 (a : Int)) ∧ w'.cell? ⟨g, 2, none⟩ = some (.bool false)) (go_keep)
        ((go_at_call 71; refine Calls.mono (HN.out _) ?_; rintro e w1 ⟨rfl, hb1⟩; (first
          | (have r1 := re (w := w) hb1 rfl rfl rfl rfl; have R1 := mkHid (R0.out.next r1); obtain ⟨d0, d1, d2⟩ := rdO_cells R1.out.at_; have e0 := World.new_ne w1 ⟨g, 0, none⟩ d0; have e1 := World.new_ne w1 ⟨g, 1, none⟩ d1; have e2 := World.new_ne w1 ⟨g, 2, none⟩ d2; clear hb1 r1)
          | (have r1 := re (w := w.alloc (.cells #[.int .i64 0, .int .i64 0, .int .i64 0] 107)) hb1 rfl rfl rfl rfl; have R1 := mkHid ((R0.out.next (below_alloc1 w _)).next r1); obtain ⟨d0, d1, d2⟩ := rdO_cells R1.out.at_; have b1 := blk_below (blk_new w (.cells #[.int .i64 0, .int .i64 0, .int .i64 0] 107) w.heap.size rfl) r1; have u1 := unfrozen b1; obtain ⟨k0, k1, k2⟩ := cel3 b1; clear hb1 r1)); unfold out))
      · have RB := mkHid (R1.out.next (below_alloc1 w1 (.cells #[.int .i64 n, .int .i64 (P : Int), .int .i64 0] 107)))
        have QB := mkHid (blk_new w1 (.cells #[.int .i64 n, .int .i64 (P : Int), .int .i64 0] 107) w1.heap.size rfl)
        clear d0 d1 d2 e0 e1 e2 c0 c1 c2 hK R1
        generalize w1.alloc (.cells #[.int .i64 n, .int .i64 (P : Int), .int .i64 0] 107) = W at *
        obtain ⟨d0, d1, d2⟩ := rdO_cells RB.out.at_
        simp only at d1 d2
        obtain ⟨k0, k1, k2⟩ := cel3 QB.out
        have uf := unfrozen (show _ = some (Obj.cells _ _) from RB.out.at_)
        have F := mkHid (RB.out.to P)
        simp only at F
        clear RB QB R0 HN
        go_wp2
        go_ret
        exact ⟨rfl, F.out⟩
      · have Q := RPost.var R1.out b1 (.int .i64 n) (.int .i64 (P : Int)) (.int .i64 0)
        clear d0 d1 d2 k0 k1 k2 u1 b1 c0 c1 c2 hK
        generalize ((w1.setCell ⟨w.heap.size, 0, none⟩ (.int .i64 n)).setCell ⟨w.heap.size, 1, none⟩ (.int .i64 (P : Int))).setCell ⟨w.heap.size, 2, none⟩ (.int .i64 0) = W at *
        have RB := mkHid Q.1
        have QB := mkHid Q.2
        clear Q R1
        obtain ⟨d0, d1, d2⟩ := rdO_cells RB.out.at_
        simp only at d1 d2
        obtain ⟨k0, k1, k2⟩ := cel3 QB.out
        have uf := unfrozen (show _ = some (Obj.cells _ _) from RB.out.at_)
        have F := mkHid (RB.out.to P)
        simp only at F
        clear RB QB R0 HN
        go_wp2
        go_ret
        exact ⟨rfl, F.out⟩
set_option maxRecDepth 100000 in
set_option maxHeartbeats 2000000 in
theorem txt_any (g : Nat) (s : ByteArray) (st : St) (w : World) (h : w.heap[g]? = some (rdO s st)) (hs : s.size ≤ 20000) (ha : st.1 ≤ 20000) :
    Calls Try.prog 43 #[.pointer (some ⟨g, 0, none⟩)] w fun e w' => e = .returned (.string (txtS s st).1) ∧ RPost w g s (txtS s st).2 w' := by
  obtain ⟨a, f⟩ := st
  have HN := mkHid (fun wx => num.stext_any s (a : Int) wx (by omega) (by omega) (by omega))
  have R0 := mkHid (RPost.start h)
  obtain ⟨c0, c1, c2⟩ := rdO_cells h
  simp only at c1 c2 ha
  have hlt := (Array.getElem?_eq_some_iff.1 h).1
  have hK : ∀ (W : World) (u0 u1 u2 : Value) (j : Nat), (((W.setCell ⟨w.heap.size, 0, none⟩ u0).setCell ⟨w.heap.size, 1, none⟩ u1).setCell ⟨w.heap.size, 2, none⟩ u2).cell? ⟨g, j, none⟩ = W.cell? ⟨g, j, none⟩ := fun W u0 u1 u2 j => by
    have e : ∀ (V : World) (p : Addr) (u : Value), p.block = w.heap.size → (V.setCell p u).cell? ⟨g, j, none⟩ = V.cell? ⟨g, j, none⟩ := fun V p u hp => by
      unfold World.cell?
      rw [Below.heap_setCell V p u g (by omega)]
    rw [e _ _ _ rfl, e _ _ _ rfl, e _ _ _ rfl]
  have HV := mkHid (txtS_bad s a)
  have HW := mkHid (show ∀ c, T s (a : Int) = .error c → txtS s (a, false) = (⟨#[]⟩, (a, true)) by intro c hG; unfold txtS; simp only [Bool.false_eq_true, if_false, hG])
  have HX := mkHid (txtS_yes s a)
  clear h
  cases hG : T s (a : Int) with
  | error c =>
    have hc : c ≠ 0 := T_code hG
    have hc' : (c != 0) = true := by simpa using hc
    rw [hG] at HN
    cases f with
    | true =>
      rw [HV.out]
      clear HV HW HX hG
      go_enter Try.func43, Try.ntmps43
      go_wp2_with fail
      go_region_held3 (fun w' => w'.cell? ⟨g, 0, none⟩ = some (.string s) ∧ w'.cell? ⟨g, 1, none⟩ = some (.int .i64 (a : Int)) ∧ w'.cell? ⟨g, 2, none⟩ = some (.bool true)) (go_keep)
        ((go_at_call 72; refine Calls.mono (HN.out _) ?_; rintro e w1 ⟨rfl, hb1⟩; (first
          | (have r1 := re (w := w) hb1 rfl rfl rfl rfl; have R1 := mkHid (R0.out.next r1); obtain ⟨d0, d1, d2⟩ := rdO_cells R1.out.at_; have e0 := World.new_ne w1 ⟨g, 0, none⟩ d0; have e1 := World.new_ne w1 ⟨g, 1, none⟩ d1; have e2 := World.new_ne w1 ⟨g, 2, none⟩ d2; clear hb1 r1)
          | (have r1 := re (w := w.alloc (.cells #[.string ⟨#[]⟩, .int .i64 0, .int .i64 0] 110)) hb1 rfl rfl rfl rfl; have R1 := mkHid ((R0.out.next (below_alloc1 w _)).next r1); obtain ⟨d0, d1, d2⟩ := rdO_cells R1.out.at_; have b1 := blk_below (blk_new w (.cells #[.string ⟨#[]⟩, .int .i64 0, .int .i64 0] 110) w.heap.size rfl) r1; have u1 := unfrozen b1; obtain ⟨k0, k1, k2⟩ := cel3 b1; clear hb1 r1)); unfold tout))
      · have RB := mkHid (R1.out.next (below_alloc1 w1 (.cells #[.string ⟨#[]⟩, .int .i64 0, .int .i64 c] 110)))
        have QB := mkHid (blk_new w1 (.cells #[.string ⟨#[]⟩, .int .i64 0, .int .i64 c] 110) w1.heap.size rfl)
        clear d0 d1 d2 e0 e1 e2 c0 c1 c2 hK R1
        generalize w1.alloc (.cells #[.string ⟨#[]⟩, .int .i64 0, .int .i64 c] 110) = W at *
        obtain ⟨d0, d1, d2⟩ := rdO_cells RB.out.at_
        simp only at d1 d2
        obtain ⟨k0, k1, k2⟩ := cel3 QB.out
        have uf := unfrozen (show _ = some (Obj.cells _ _) from RB.out.at_)
        have F := mkHid RB.out.bad
        simp only at F
        clear RB QB R0 HN
        go_wp2
        go_ret
        exact ⟨rfl, F.out⟩
      · have Q := RPost.var R1.out b1 (.string ⟨#[]⟩) (.int .i64 0) (.int .i64 c)
        clear d0 d1 d2 k0 k1 k2 u1 b1 c0 c1 c2 hK
        generalize ((w1.setCell ⟨w.heap.size, 0, none⟩ (.string ⟨#[]⟩)).setCell ⟨w.heap.size, 1, none⟩ (.int .i64 0)).setCell ⟨w.heap.size, 2, none⟩ (.int .i64 c) = W at *
        have RB := mkHid Q.1
        have QB := mkHid Q.2
        clear Q R1
        obtain ⟨d0, d1, d2⟩ := rdO_cells RB.out.at_
        simp only at d1 d2
        obtain ⟨k0, k1, k2⟩ := cel3 QB.out
        have uf := unfrozen (show _ = some (Obj.cells _ _) from RB.out.at_)
        have F := mkHid RB.out.bad
        simp only at F
        clear RB QB R0 HN
        go_wp2
        go_ret
        exact ⟨rfl, F.out⟩
    | false =>
      rw [HW.out c hG]
      clear HV HW HX hG
      go_enter Try.func43, Try.ntmps43
      go_wp2_with fail
      go_region_held3 (fun w' => w'.cell? ⟨g, 0, none⟩ = some (.string s) ∧ w'.cell? ⟨g, 1, none⟩ = some (.int .i64 (a : Int)) ∧ w'.cell? ⟨g, 2, none⟩ = some (.bool false)) (go_keep)
        ((go_at_call 72; refine Calls.mono (HN.out _) ?_; rintro e w1 ⟨rfl, hb1⟩; (first
          | (have r1 := re (w := w) hb1 rfl rfl rfl rfl; have R1 := mkHid (R0.out.next r1); obtain ⟨d0, d1, d2⟩ := rdO_cells R1.out.at_; have e0 := World.new_ne w1 ⟨g, 0, none⟩ d0; have e1 := World.new_ne w1 ⟨g, 1, none⟩ d1; have e2 := World.new_ne w1 ⟨g, 2, none⟩ d2; clear hb1 r1)
          | (have r1 := re (w := w.alloc (.cells #[.string ⟨#[]⟩, .int .i64 0, .int .i64 0] 110)) hb1 rfl rfl rfl rfl; have R1 := mkHid ((R0.out.next (below_alloc1 w _)).next r1); obtain ⟨d0, d1, d2⟩ := rdO_cells R1.out.at_; have b1 := blk_below (blk_new w (.cells #[.string ⟨#[]⟩, .int .i64 0, .int .i64 0] 110) w.heap.size rfl) r1; have u1 := unfrozen b1; obtain ⟨k0, k1, k2⟩ := cel3 b1; clear hb1 r1)); unfold tout))
      · have RB := mkHid (R1.out.next (below_alloc1 w1 (.cells #[.string ⟨#[]⟩, .int .i64 0, .int .i64 c] 110)))
        have QB := mkHid (blk_new w1 (.cells #[.string ⟨#[]⟩, .int .i64 0, .int .i64 c] 110) w1.heap.size rfl)
        clear d0 d1 d2 e0 e1 e2 c0 c1 c2 hK R1
        generalize w1.alloc (.cells #[.string ⟨#[]⟩, .int .i64 0, .int .i64 c] 110) = W at *
        obtain ⟨d0, d1, d2⟩ := rdO_cells RB.out.at_
        simp only at d1 d2
        obtain ⟨k0, k1, k2⟩ := cel3 QB.out
        have uf := unfrozen (show _ = some (Obj.cells _ _) from RB.out.at_)
        have F := mkHid RB.out.bad
        simp only at F
        clear RB QB R0 HN
        go_wp2
        go_ret
        exact ⟨rfl, F.out⟩
      · have Q := RPost.var R1.out b1 (.string ⟨#[]⟩) (.int .i64 0) (.int .i64 c)
        clear d0 d1 d2 k0 k1 k2 u1 b1 c0 c1 c2 hK
        generalize ((w1.setCell ⟨w.heap.size, 0, none⟩ (.string ⟨#[]⟩)).setCell ⟨w.heap.size, 1, none⟩ (.int .i64 0)).setCell ⟨w.heap.size, 2, none⟩ (.int .i64 c) = W at *
        have RB := mkHid Q.1
        have QB := mkHid Q.2
        clear Q R1
        obtain ⟨d0, d1, d2⟩ := rdO_cells RB.out.at_
        simp only at d1 d2
        obtain ⟨k0, k1, k2⟩ := cel3 QB.out
        have uf := unfrozen (show _ = some (Obj.cells _ _) from RB.out.at_)
        have F := mkHid RB.out.bad
        simp only at F
        clear RB QB R0 HN
        go_wp2
        go_ret
        exact ⟨rfl, F.out⟩
  | ok r =>
    obtain ⟨n, p⟩ := r
    obtain ⟨P, rfl, hP, hE⟩ := HX.out n p hG
    have hPi : (P : Int) ≤ 20000 := by omega
    rw [hG] at HN
    cases f with
    | true =>
      rw [HV.out]
      clear HV HW HX hG hE
      go_enter Try.func43, Try.ntmps43
      go_wp2_with fail
      go_region_held3 (fun w' => w'.cell? ⟨g, 0, none⟩ = some (.string s) ∧ w'.cell? ⟨g, 1, none⟩ = some (.int .i64 (a : Int)) ∧ w'.cell? ⟨g, 2, none⟩ = some (.bool true)) (go_keep)
        ((go_at_call 72; refine Calls.mono (HN.out _) ?_; rintro e w1 ⟨rfl, hb1⟩; (first
          | (have r1 := re (w := w) hb1 rfl rfl rfl rfl; have R1 := mkHid (R0.out.next r1); obtain ⟨d0, d1, d2⟩ := rdO_cells R1.out.at_; have e0 := World.new_ne w1 ⟨g, 0, none⟩ d0; have e1 := World.new_ne w1 ⟨g, 1, none⟩ d1; have e2 := World.new_ne w1 ⟨g, 2, none⟩ d2; clear hb1 r1)
          | (have r1 := re (w := w.alloc (.cells #[.string ⟨#[]⟩, .int .i64 0, .int .i64 0] 110)) hb1 rfl rfl rfl rfl; have R1 := mkHid ((R0.out.next (below_alloc1 w _)).next r1); obtain ⟨d0, d1, d2⟩ := rdO_cells R1.out.at_; have b1 := blk_below (blk_new w (.cells #[.string ⟨#[]⟩, .int .i64 0, .int .i64 0] 110) w.heap.size rfl) r1; have u1 := unfrozen b1; obtain ⟨k0, k1, k2⟩ := cel3 b1; clear hb1 r1)); unfold tout))
      · have RB := mkHid (R1.out.next (below_alloc1 w1 (.cells #[.string n, .int .i64 (P : Int), .int .i64 0] 110)))
        have QB := mkHid (blk_new w1 (.cells #[.string n, .int .i64 (P : Int), .int .i64 0] 110) w1.heap.size rfl)
        clear d0 d1 d2 e0 e1 e2 c0 c1 c2 hK R1
        generalize w1.alloc (.cells #[.string n, .int .i64 (P : Int), .int .i64 0] 110) = W at *
        obtain ⟨d0, d1, d2⟩ := rdO_cells RB.out.at_
        simp only at d1 d2
        obtain ⟨k0, k1, k2⟩ := cel3 QB.out
        have uf := unfrozen (show _ = some (Obj.cells _ _) from RB.out.at_)
        have F := mkHid RB.out.bad
        simp only at F
        clear RB QB R0 HN
        go_wp2
        go_ret
        exact ⟨rfl, F.out⟩
      · have Q := RPost.var R1.out b1 (.string n) (.int .i64 (P : Int)) (.int .i64 0)
        clear d0 d1 d2 k0 k1 k2 u1 b1 c0 c1 c2 hK
        generalize ((w1.setCell ⟨w.heap.size, 0, none⟩ (.string n)).setCell ⟨w.heap.size, 1, none⟩ (.int .i64 (P : Int))).setCell ⟨w.heap.size, 2, none⟩ (.int .i64 0) = W at *
        have RB := mkHid Q.1
        have QB := mkHid Q.2
        clear Q R1
        obtain ⟨d0, d1, d2⟩ := rdO_cells RB.out.at_
        simp only at d1 d2
        obtain ⟨k0, k1, k2⟩ := cel3 QB.out
        have uf := unfrozen (show _ = some (Obj.cells _ _) from RB.out.at_)
        have F := mkHid RB.out.bad
        simp only at F
        clear RB QB R0 HN
        go_wp2
        go_ret
        exact ⟨rfl, F.out⟩
    | false =>
      rw [hE]
      clear HV HW HX hG hE
      go_enter Try.func43, Try.ntmps43
      go_wp2_with fail
      go_region_held3 (fun w' => w'.cell? ⟨g, 0, none⟩ = some (.string s) ∧ w'.cell? ⟨g, 1, none⟩ = some (.int .i64 (a : Int)) ∧ w'.cell? ⟨g, 2, none⟩ = some (.bool false)) (go_keep)
        ((go_at_call 72; refine Calls.mono (HN.out _) ?_; rintro e w1 ⟨rfl, hb1⟩; (first
          | (have r1 := re (w := w) hb1 rfl rfl rfl rfl; have R1 := mkHid (R0.out.next r1); obtain ⟨d0, d1, d2⟩ := rdO_cells R1.out.at_; have e0 := World.new_ne w1 ⟨g, 0, none⟩ d0; have e1 := World.new_ne w1 ⟨g, 1, none⟩ d1; have e2 := World.new_ne w1 ⟨g, 2, none⟩ d2; clear hb1 r1)
          | (have r1 := re (w := w.alloc (.cells #[.string ⟨#[]⟩, .int .i64 0, .int .i64 0] 110)) hb1 rfl rfl rfl rfl; have R1 := mkHid ((R0.out.next (below_alloc1 w _)).next r1); obtain ⟨d0, d1, d2⟩ := rdO_cells R1.out.at_; have b1 := blk_below (blk_new w (.cells #[.string ⟨#[]⟩, .int .i64 0, .int .i64 0] 110) w.heap.size rfl) r1; have u1 := unfrozen b1; obtain ⟨k0, k1, k2⟩ := cel3 b1; clear hb1 r1)); unfold tout))
      · have RB := mkHid (R1.out.next (below_alloc1 w1 (.cells #[.string n, .int .i64 (P : Int), .int .i64 0] 110)))
        have QB := mkHid (blk_new w1 (.cells #[.string n, .int .i64 (P : Int), .int .i64 0] 110) w1.heap.size rfl)
        clear d0 d1 d2 e0 e1 e2 c0 c1 c2 hK R1
        generalize w1.alloc (.cells #[.string n, .int .i64 (P : Int), .int .i64 0] 110) = W at *
        obtain ⟨d0, d1, d2⟩ := rdO_cells RB.out.at_
        simp only at d1 d2
        obtain ⟨k0, k1, k2⟩ := cel3 QB.out
        have uf := unfrozen (show _ = some (Obj.cells _ _) from RB.out.at_)
        have F := mkHid (RB.out.to P)
        simp only at F
        clear RB QB R0 HN
        go_wp2
        go_ret
        exact ⟨rfl, F.out⟩
      · have Q := RPost.var R1.out b1 (.string n) (.int .i64 (P : Int)) (.int .i64 0)
        clear d0 d1 d2 k0 k1 k2 u1 b1 c0 c1 c2 hK
        generalize ((w1.setCell ⟨w.heap.size, 0, none⟩ (.string n)).setCell ⟨w.heap.size, 1, none⟩ (.int .i64 (P : Int))).setCell ⟨w.heap.size, 2, none⟩ (.int .i64 0) = W at *
        have RB := mkHid Q.1
        have QB := mkHid Q.2
        clear Q R1
        obtain ⟨d0, d1, d2⟩ := rdO_cells RB.out.at_
        simp only at d1 d2
        obtain ⟨k0, k1, k2⟩ := cel3 QB.out
        have uf := unfrozen (show _ = some (Obj.cells _ _) from RB.out.at_)
        have F := mkHid (RB.out.to P)
        simp only at F
        clear RB QB R0 HN
        go_wp2
        go_ret
        exact ⟨rfl, F.out⟩
end Go.Proofs.Ytmmmadehifajlaa.plc
namespace Go.Proofs.Ytmmmadehifajlaa.plc
open Go.RowKit Go.Joins
open Go.Proofs.Ytmmmadehifajlaa.base Go.Proofs.Ytmmmadehifajlaa.blk Go.Proofs.Ytmmmadehifajlaa.aid
set_option linter.unusedVariables false
set_option linter.unusedSimpArgs false
set_option maxRecDepth 100000 in
set_option maxHeartbeats 2000000 in
theorem byt_any (g : Nat) (s : ByteArray) (st : St) (w : World) (h : w.heap[g]? = some (rdO s st)) (hs : s.size ≤ 20000) (ha : st.1 ≤ 20000) :
    Calls Try.prog 42 #[.pointer (some ⟨g, 0, none⟩), .int .i64 32] w fun e w' => e = .returned (.string (bytS s st).1) ∧ RPost w g s (bytS s st).2 w' := by
  obtain ⟨a, f⟩ := st
  have R0 := mkHid (RPost.start h)
  obtain ⟨c0, c1, c2⟩ := rdO_cells h
  simp only at c1 c2 ha
  have uf := unfrozen (show _ = some (Obj.cells _ _) from h)
  have hsi : (s.size : Int) ≤ 20000 := by omega
  have hai : (a : Int) ≤ 20000 := by omega
  clear h
  cases f with
  | true =>
    have E : Hid (bytS s (a, true) = (⟨#[]⟩, (a, true))) := mkHid (by unfold bytS; rw [if_pos (.inl rfl)])
    rw [E.out]
    have F := mkHid R0.out.bad
    simp only at F
    clear R0 E
    go_enter Try.func42, Try.ntmps42
    go_wp2_with fail
    go_quiet (fail)
    have F := mkHid (show RPost w g s (a, true) ((w.drewN nq).setCell ⟨g, 2, none⟩ (.bool true)) from ⟨F.out.at_, ⟨F.out.grew.os, F.out.grew.tape, F.out.grew.output, F.out.grew.size, F.out.grew.block⟩⟩)
    go_wp2
    go_ret
    exact ⟨rfl, F.out⟩
  | false =>
    by_cases hlt : s.size < a + 32
    · have E : Hid (bytS s (a, false) = (⟨#[]⟩, (a, true))) := mkHid (by unfold bytS; rw [if_pos (.inr hlt)])
      rw [E.out]
      have F := mkHid R0.out.bad
      simp only at F
      have hli : (s.size : Int) - 32 < (a : Int) := by omega
      clear R0 E
      go_enter Try.func42, Try.ntmps42
      go_wp2_with fail
      go_quiet (fail)
      have F := mkHid (show RPost w g s (a, true) ((w.drewN nq).setCell ⟨g, 2, none⟩ (.bool true)) from ⟨F.out.at_, ⟨F.out.grew.os, F.out.grew.tape, F.out.grew.output, F.out.grew.size, F.out.grew.block⟩⟩)
      go_wp2
      go_ret
      exact ⟨rfl, F.out⟩
    · have E : Hid (bytS s (a, false) = (s.extract a (a + 32), (a + 32, false))) := mkHid (by unfold bytS; rw [if_neg (by simp; omega)])
      rw [E.out]
      have F := mkHid (R0.out.to (a + 32))
      have e : ((a + 32 : Nat) : Int) = (a : Int) + 32 := by omega
      simp only at F
      rw [e] at F
      have hli : (a : Int) ≤ (s.size : Int) - 32 := by omega
      have hsl : ∀ wx, (Instr.slice 9 (.string s) (some (.int .i64 (a : Int))) (some (.int .i64 ((a : Int) + 32))) none).run Try.prog wx = .ok (.string (s.extract a (a + 32))) wx := fun wx => by
        rw [run_slice_string_if wx 9 s .i64 .i64 (a : Int) ((a : Int) + 32) Try.underlying9, if_pos ⟨by omega, by omega⟩, if_pos ⟨by omega, by omega⟩]
        have e1 : (a : Int).toNat = a := by omega
        have e2 : ((a : Int) + 32).toNat = a + 32 := by omega
        rw [e1, e2]
      clear R0 E e
      go_enter Try.func42, Try.ntmps42
      go_wp2_with fail
      go_quiet (fail)
      have F := mkHid (show RPost w g s (a + 32, false) ((w.drewN nq).setCell ⟨g, 1, none⟩ (.int .i64 ((a : Int) + 32))) from ⟨F.out.at_, ⟨F.out.grew.os, F.out.grew.tape, F.out.grew.output, F.out.grew.size, F.out.grew.block⟩⟩)
      go_wp2_with fail
      generalize (w.drewN nq).setCell ⟨g, 1, none⟩ (.int .i64 ((a : Int) + 32)) = W at *
      obtain ⟨d0, d1, d2⟩ := rdO_cells F.out.at_
      simp only at d1 d2
      have e : ((a + 32 : Nat) : Int) = (a : Int) + 32 := by omega
      rw [e] at d1
      clear c0 c1 c2 uf
      go_quiet (fail)
      have F := mkHid (show RPost w g s (a + 32, false) (W.drewN nq) from ⟨F.out.at_, ⟨F.out.grew.os, F.out.grew.tape, F.out.grew.output, F.out.grew.size, F.out.grew.block⟩⟩)
      go_wp2
      go_ret
      exact ⟨rfl, F.out⟩
end Go.Proofs.Ytmmmadehifajlaa.plc
