/-
  What spec.l10Put and spec.l10Copy answer and leave. Conditions: places that lie in memory, in a slice that holds them.
-/
import Derived.Test.YtppjbmmeacmoiaaPlRow
import Derived.Test.YtppjbmmeacmoiaaPlRS
namespace Go.Proofs.Ytppjbmmeacmoiaa.plc
open Go.RowKit Go.Joins Go.Sort
open Go.Proofs.Ytppjbmmeacmoiaa.base Go.Proofs.Ytppjbmmeacmoiaa.blk Go.Proofs.Ytppjbmmeacmoiaa.aid
open Go.Proofs.Ytppjbmmeacmoiaa.row (Rd Own OwnV appSem app_fold)
open Go.Proofs.Ytppjbmmeacmoiaa.rwPlace (cs el)
set_option linter.unusedVariables false
set_option linter.unusedSimpArgs false
attribute [local go_sem ↓] app_fold slice_fold

theorem own_rd {w : World} {base T n size c : Nat} {a : Option Addr} {xs : List Value} (h : w.ownsRow base T size (.slice a n c) n xs) : Rd w a xs := by
  rcases h.2 with ⟨h1, h2⟩ | ⟨g, cap, cur, h1, _⟩
  · have h3 := h.1
    rw [h2, Nat.zero_mul] at h3
    have := List.eq_nil_of_length_eq_zero h3
    subst this
    exact Rd.nil _ _
  · simp at h1
    obtain ⟨rfl, _⟩ := h1
    exact (OwnV.rd (.inr ⟨g, rfl, Own.owns h⟩))
theorem empty_row (w : World) : (w.alloc (.cells #[] 37)).ownsRow w.heap.size 37 5 (.slice (some ⟨w.heap.size, 0, none⟩) 0 0) 0 (cs []) :=
  World.ownsRow_made (size := 5) w #[] 0 (Nat.le_refl _) (by unfold maxLen; omega) rfl
/-- first places, one, and the rest, in a row of our own -/
theorem three (a : Option Addr) (c : Nat) (l : List Pl) (x0 x1 : ByteArray) (x2 x3 x4 : Int) (k : Nat) (w : World) (hk : k ≤ l.length) (hl : l.length ≤ 1048576) (hc : l.length ≤ c) (hr : Rd w a (cs l)) :
    ∃ a1 c1 w1 a2 c2 w2 a3 c3 w3, (appSem #[25, 25] 25 #[.slice (some ⟨w.heap.size, 0, none⟩) 0 0, .slice a k c]).run Try.prog (w.alloc (.cells #[] 37)) = .ok (.slice a1 k c1) w1 ∧
      (appSem #[25, 25] 25 #[.slice a1 k c1, .slice (some ⟨w1.heap.size, 0, none⟩) 1 1]).run Try.prog (w1.alloc (.cells #[.string x0, .string x1, .int .i64 x2, .int .i64 x3, .int .i64 x4] 37)) = .ok (.slice a2 (k + 1) c2) w2 ∧
      (appSem #[25, 25] 25 #[.slice a2 (k + 1) c2, .slice (lo a k c) (l.length - k) (c - k)]).run Try.prog w2 = .ok (.slice a3 (k + 1 + (l.length - k)) c3) w3 ∧
      Rd w3 a3 (cs (l.take k ++ [(x0, x1, x2, x3, x4)] ++ l.drop k)) ∧ (∀ b o s, a3 = some ⟨b, o, s⟩ → w.heap.size ≤ b) ∧ Below w.heap.size w w3 ∧ k + 1 + (l.length - k) ≤ c3 ∧ Below w.heap.size w w1 := by
  have hB0 := below_alloc1 w (.cells #[] 37)
  have q1 : (l.take k).length = k := by simp; omega
  obtain ⟨v1, w1, happ1, hown1, hgr1⟩ := appRP (w.alloc (.cells #[] 37)) w.heap.size _ 0 [] (empty_row w) hB0.size a c (l.take k) (rd_take (hr.alloc _) k) (by omega)
  rw [q1, Nat.zero_add] at hown1
  rw [q1] at happ1
  obtain ⟨a1, c1, rfl⟩ := slice_of hown1
  have hB1 : Below w.heap.size w w1 := hB0.grown hgr1 hB0.size (fun j hj => ((empty_row w).lt j hj).1)
  obtain ⟨g2, c2, w2, happ2, hown2, hgr2⟩ := rwPlace.app (W := w1) (base := w.heap.size) (.slice a1 k c1) k (l.take k) x0 x1 x2 x3 x4 q1 hown1 hB1.size (by omega)
  have hB1' : Below w.heap.size w (w1.alloc (.cells #[.string x0, .string x1, .int .i64 x2, .int .i64 x3, .int .i64 x4] 37)) := hB1.alloc hB1.size _
  have hB2 : Below w.heap.size w w2 := hB1'.grown hgr2 hB1'.size (fun j hj => (hown1.lt j hj).1)
  have q3 : (l.drop k).length = l.length - k := by simp
  obtain ⟨v3, w3, happ3, hown3, hgr3⟩ := appRP w2 w.heap.size _ (k + 1) (l.take k ++ [(x0, x1, x2, x3, x4)]) hown2 hB2.size (lo a k c) (c - k) (l.drop k) (rd_drop (hr.below hB2) k hk hc) (by omega)
  rw [q3] at happ3 hown3
  obtain ⟨a3, c3, rfl⟩ := slice_of hown3
  have hB3 : Below w.heap.size w w3 := hB2.grown hgr3 hB2.size (fun j hj => (hown2.lt j hj).1)
  exact ⟨a1, c1, w1, _, c2, w2, a3, c3, w3, happ1, happ2, happ3, own_rd hown3, fun b o s e => (hown3.lt b (by rw [e]; rfl)).1, hB3, (cap_of hown3).2, hB1⟩
/-- places that can be read are the answer: the argument's own or fresh ones -/
def PtPost (w : World) (a : Option Addr) (ts : List Pl) (e : Ending) (w' : World) : Prop :=
  ∃ a' c', e = .returned (.slice a' ts.length c') ∧ Rd w' a' (cs ts) ∧ (a' = a ∨ ∀ b o s, a' = some ⟨b, o, s⟩ → w.heap.size ≤ b) ∧ Below w.heap.size w w' ∧ ts.length ≤ c'
theorem pt_of {w w' : World} {a a' : Option Addr} {ts : List Pl} {n c' : Nat} (hn : ts.length = n) (hr : Rd w' a' (cs ts)) (hf : a' = a ∨ ∀ b o s, a' = some ⟨b, o, s⟩ → w.heap.size ≤ b) (hb : Below w.heap.size w w') (hc : n ≤ c') : PtPost w a ts (.returned (.slice a' n c')) w' := by
  subst hn
  exact ⟨a', c', rfl, hr, hf, hb, hc⟩
theorem put_ins {l : List Pl} {x : Pl} {k : Nat} (hk : spot x l 0 = k) (h : ∀ f, l[k]? = some f → lessP x f = true) : put l x = l.take k ++ [x] ++ l.drop k := by
  subst hk
  unfold put
  cases hg : l[spot x l 0]? with
  | none => rfl
  | some f => simp only [h f hg, if_true]
theorem put_old {l : List Pl} {x f : Pl} {k : Nat} (hk : spot x l 0 = k) (hf : l[k]? = some f) (h : lessP x f = false) : put l x = l := by
  subst hk
  unfold put
  rw [hf]
  simp [h]
theorem ins_len (l : List Pl) (x : Pl) (k : Nat) (hk : k ≤ l.length) : (l.take k ++ [x] ++ l.drop k).length = k + 1 + (l.length - k) := by simp; omega
set_option maxRecDepth 100000 in
set_option maxHeartbeats 4000000 in
theorem putS_any (a : Option Addr) (c : Nat) (l : List Pl) (x0 x1 : ByteArray) (x2 x3 x4 : Int) (w : World) (hl : l.length ≤ 1048576) (hc : l.length ≤ c) (hr : Rd w a (cs l)) :
    Calls Try.prog 32 #[.slice a l.length c, .agg #[.string x0, .string x1, .int .i64 x2, .int .i64 x3, .int .i64 x4]] w (PtPost w a (put l (x0, x1, x2, x3, x4))) := by
  have HA := mkHid hr
  have hli : (l.length : Int) ≤ 1048576 := by omega
  have HB0 := mkHid (below_alloc1 w (.cells #[.string x0, .string x1, .int .i64 x2, .int .i64 x3, .int .i64 x4] 37))
  have b0 := mkHid (blk_new w (.cells #[.string x0, .string x1, .int .i64 x2, .int .i64 x3, .int .i64 x4] 37) w.heap.size rfl)
  clear hr
  go_enter Try.func32, Try.ntmps32
  have hmx := mixed
  go_wp2_with fail
  go_loopw [5] (fun i wr => ∃ k : Nat, k ≤ l.length ∧ i = .int .i64 k ∧ Hid (spot (x0, x1, x2, x3, x4) l 0 = spot (x0, x1, x2, x3, x4) (l.drop k) k) ∧ Hid (Below w.heap.size w wr) ∧ Hid (wr.heap[w.heap.size]? = some (.cells #[.string x0, .string x1, .int .i64 x2, .int .i64 x3, .int .i64 x4] 37)))
    (fun i _ => l.length - (intOf i).toNat)
  case atStart => exact ⟨0, Nat.zero_le _, rfl, mkHid (by simp), HB0, b0⟩
  case round =>
    obtain ⟨k, hkl, rfl, hE, HB, hb⟩ := hrel
    clear HB0 b0
    have hwr : w.heap.size < wr.heap.size := (Array.getElem?_eq_some_iff.1 hb.out).1
    have HG : Hid (∀ n os, Below w.heap.size w (grow (wr.drewN n) os)) := mkHid (fun n os => below_grow os HB.out (by omega))
    have HGb : Hid (∀ n os, (grow (wr.drewN n) os).heap[w.heap.size]? = some (.cells #[.string x0, .string x1, .int .i64 x2, .int .i64 x3, .int .i64 x4] 37)) := mkHid (fun n os => by rw [heap_grow_old _ _ (by show w.heap.size < wr.heap.size; omega)]; exact hb.out)
    obtain ⟨f0, f1, f2, f3, f4⟩ := cel5 hb.out
    have hS1 := fun wx => sl_hi a l.length c k (by omega) wx
    have hS2 := fun wx => sl_lo a l.length c k (by omega) wx
    by_cases hlt : k < l.length
    · have hlti : (k : Int) < (l.length : Int) := by omega
      obtain ⟨⟨y0, y1, y2, y3, y4⟩, hx⟩ : ∃ y, l[k]? = some y := ⟨_, List.getElem?_eq_getElem hlt⟩
      have hR := HA.out.below HB.out
      obtain ⟨g1, o1, rfl, c0, c1, c2, c3, c4, l1⟩ := el hR hx
      simp only at c0 c1 c2 c3 c4
      have hst := spot_step l (x0, x1, x2, x3, x4) k _ hx
      have F0 := fun n os => cell_grown (n := n) (os := os) (a := ⟨w.heap.size, 0, none⟩) hwr f0
      have F1 := fun n os => cell_grown (n := n) (os := os) (a := ⟨w.heap.size, 1, none⟩) hwr f1
      have F2 := fun n os => cell_grown (n := n) (os := os) (a := ⟨w.heap.size, 2, none⟩) hwr f2
      have F3 := fun n os => cell_grown (n := n) (os := os) (a := ⟨w.heap.size, 3, none⟩) hwr f3
      have F4 := fun n os => cell_grown (n := n) (os := os) (a := ⟨w.heap.size, 4, none⟩) hwr f4
      have P0 := fun n os => cell_grown (n := n) (os := os) l1 c0
      have P1 := fun n os => cell_grown (n := n) (os := os) (a := ⟨g1, o1 + k * 5 + 1, none⟩) l1 c1
      have P2 := fun n os => cell_grown (n := n) (os := os) (a := ⟨g1, o1 + k * 5 + 2, none⟩) l1 c2
      have P3 := fun n os => cell_grown (n := n) (os := os) (a := ⟨g1, o1 + k * 5 + 3, none⟩) l1 c3
      have P4 := fun n os => cell_grown (n := n) (os := os) (a := ⟨g1, o1 + k * 5 + 4, none⟩) l1 c4
      cases hless : lessP (y0, y1, y2, y3, y4) (x0, x1, x2, x3, x4) with
      | true =>
        have N1 : Hid (spot (x0, x1, x2, x3, x4) l 0 = spot (x0, x1, x2, x3, x4) (l.drop (k + 1)) (k + 1)) := mkHid (by rw [hE.out, hst, if_pos hless])
        have HS1 := mkHid (fun wx => less_grown (y0, y1, y2, y3, y4) (x0, x1, x2, x3, x4) wx _ hless)
        clear hx hst hE hS1 hS2 hless hR HB hb
        go_wp2_with fail
        refine wp_region_quiet_grown mixed (by kernel_rfl) ?_
        repeat (go_big_quiet_step ((go_at_call 26; refine Calls.grown_of (HS1.out _))))
        refine wpQuiet_nil ?_
        intro _ hw'
        obtain ⟨⟨nq, osq⟩, hw''⟩ := hw'
        subst hw''
        go_wp2
        go_roundw
        case rel => exact ⟨k + 1, by omega, by go_num, N1, mkHid (HG.out _ _), mkHid (HGb.out _ _)⟩
        case measure => simp [intOf]; omega
      | false =>
        have hk : spot (x0, x1, x2, x3, x4) l 0 = k := by rw [hE.out, hst, if_neg (by rw [hless]; simp)]
        have HS1 := mkHid (fun wx => less_grown (y0, y1, y2, y3, y4) (x0, x1, x2, x3, x4) wx _ hless)
        cases hrev : lessP (x0, x1, x2, x3, x4) (y0, y1, y2, y3, y4) with
        | false =>
          have HS2 := mkHid (fun wx => less_grown (x0, x1, x2, x3, x4) (y0, y1, y2, y3, y4) wx _ hrev)
          have hp := put_old hk hx hrev
          have HP : Hid (∀ W, Below w.heap.size w W → PtPost w (some ⟨g1, o1, none⟩) (put l (x0, x1, x2, x3, x4)) (.returned (.slice (some ⟨g1, o1, none⟩) l.length c)) W) := mkHid (fun W hW => pt_of (by rw [hp]) (by rw [hp]; exact HA.out.below hW) (.inl rfl) hW hc)
          have HG2 : Hid (∀ n os n2 os2, Below w.heap.size w (grow ((grow (wr.drewN n) os).drewN n2) os2)) := mkHid (fun n os n2 os2 => below_grow os2 (HG.out n os) (by have := (HG.out n os).size; omega))
          clear hx hst hE hS1 hS2 hless hR HB hb hk hp hrev
          go_wp2_with fail
          refine wp_region_quiet_grown mixed (by kernel_rfl) ?_
          repeat (go_big_quiet_step ((go_at_call 26; refine Calls.grown_of (HS1.out _))))
          refine wpQuiet_nil ?_
          intro _ hw'
          obtain ⟨⟨nq, osq⟩, hw''⟩ := hw'
          subst hw''
          have f0 := F0 nq osq
          have f1 := F1 nq osq
          have f2 := F2 nq osq
          have f3 := F3 nq osq
          have f4 := F4 nq osq
          have c0 := P0 nq osq
          have c1 := P1 nq osq
          have c2 := P2 nq osq
          have c3 := P3 nq osq
          have c4 := P4 nq osq
          have hwr2 : w.heap.size < (grow (wr.drewN nq) osq).heap.size := by have := (HGb.out nq osq); exact (Array.getElem?_eq_some_iff.1 this).1
          have l2 : g1 < (grow (wr.drewN nq) osq).heap.size := by simp; omega
          have HG3 := mkHid (HG2.out nq osq)
          clear F0 F1 F2 F3 F4 P0 P1 P2 P3 P4 HG2
          generalize grow (wr.drewN nq) osq = V at *
          have F0 := fun n os => cell_grown (n := n) (os := os) (a := ⟨w.heap.size, 0, none⟩) hwr2 f0
          have F1 := fun n os => cell_grown (n := n) (os := os) (a := ⟨w.heap.size, 1, none⟩) hwr2 f1
          have F2 := fun n os => cell_grown (n := n) (os := os) (a := ⟨w.heap.size, 2, none⟩) hwr2 f2
          have F3 := fun n os => cell_grown (n := n) (os := os) (a := ⟨w.heap.size, 3, none⟩) hwr2 f3
          have F4 := fun n os => cell_grown (n := n) (os := os) (a := ⟨w.heap.size, 4, none⟩) hwr2 f4
          have P0 := fun n os => cell_grown (n := n) (os := os) l2 c0
          have P1 := fun n os => cell_grown (n := n) (os := os) (a := ⟨g1, o1 + k * 5 + 1, none⟩) l2 c1
          have P2 := fun n os => cell_grown (n := n) (os := os) (a := ⟨g1, o1 + k * 5 + 2, none⟩) l2 c2
          have P3 := fun n os => cell_grown (n := n) (os := os) (a := ⟨g1, o1 + k * 5 + 3, none⟩) l2 c3
          have P4 := fun n os => cell_grown (n := n) (os := os) (a := ⟨g1, o1 + k * 5 + 4, none⟩) l2 c4
          go_wp2_with fail
          refine wp_region_quiet_grown mixed (by kernel_rfl) ?_
          repeat (go_big_quiet_step ((go_at_call 26; refine Calls.grown_of (HS2.out _))))
          refine wpQuiet_nil ?_
          intro _ hw'
          obtain ⟨⟨nq2, osq2⟩, hw''⟩ := hw'
          subst hw''
          go_wp2
          go_ret
          exact HP.out _ (HG3.out _ _)
        | true =>
          have HS2 := mkHid (fun wx => less_grown (x0, x1, x2, x3, x4) (y0, y1, y2, y3, y4) wx _ hrev)
          have hp := put_ins (l := l) hk (fun f hf => by rw [hx] at hf; cases hf; exact hrev)
          have HG2 : Hid (∀ n os n2 os2, Below w.heap.size w (grow ((grow (wr.drewN n) os).drewN n2) os2)) := mkHid (fun n os n2 os2 => below_grow os2 (HG.out n os) (by have := (HG.out n os).size; omega))
          have HG2b : Hid (∀ n os n2 os2, (grow ((grow (wr.drewN n) os).drewN n2) os2).heap[w.heap.size]? = some (.cells #[.string x0, .string x1, .int .i64 x2, .int .i64 x3, .int .i64 x4] 37)) := mkHid (fun n os n2 os2 => by
            have h := HGb.out n os
            rw [heap_grow_old _ _ (by show w.heap.size < (grow (wr.drewN n) os).heap.size; exact (Array.getElem?_eq_some_iff.1 h).1)]
            exact h)
          have HP := mkHid hp
          clear hx hst hE hless hR HB hb hk hp hrev
          go_wp2_with fail
          refine wp_region_quiet_grown mixed (by kernel_rfl) ?_
          repeat (go_big_quiet_step ((go_at_call 26; refine Calls.grown_of (HS1.out _))))
          refine wpQuiet_nil ?_
          intro _ hw'
          obtain ⟨⟨nq, osq⟩, hw''⟩ := hw'
          subst hw''
          have f0 := F0 nq osq
          have f1 := F1 nq osq
          have f2 := F2 nq osq
          have f3 := F3 nq osq
          have f4 := F4 nq osq
          have c0 := P0 nq osq
          have c1 := P1 nq osq
          have c2 := P2 nq osq
          have c3 := P3 nq osq
          have c4 := P4 nq osq
          have hwr2 : w.heap.size < (grow (wr.drewN nq) osq).heap.size := by have := (HGb.out nq osq); exact (Array.getElem?_eq_some_iff.1 this).1
          have l2 : g1 < (grow (wr.drewN nq) osq).heap.size := by simp; omega
          have HG3 := mkHid (HG2.out nq osq)
          have HG3b := mkHid (HG2b.out nq osq)
          clear F0 F1 F2 F3 F4 P0 P1 P2 P3 P4 HG2 HG2b
          generalize grow (wr.drewN nq) osq = V at *
          have F0 := fun n os => cell_grown (n := n) (os := os) (a := ⟨w.heap.size, 0, none⟩) hwr2 f0
          have F1 := fun n os => cell_grown (n := n) (os := os) (a := ⟨w.heap.size, 1, none⟩) hwr2 f1
          have F2 := fun n os => cell_grown (n := n) (os := os) (a := ⟨w.heap.size, 2, none⟩) hwr2 f2
          have F3 := fun n os => cell_grown (n := n) (os := os) (a := ⟨w.heap.size, 3, none⟩) hwr2 f3
          have F4 := fun n os => cell_grown (n := n) (os := os) (a := ⟨w.heap.size, 4, none⟩) hwr2 f4
          have P0 := fun n os => cell_grown (n := n) (os := os) l2 c0
          have P1 := fun n os => cell_grown (n := n) (os := os) (a := ⟨g1, o1 + k * 5 + 1, none⟩) l2 c1
          have P2 := fun n os => cell_grown (n := n) (os := os) (a := ⟨g1, o1 + k * 5 + 2, none⟩) l2 c2
          have P3 := fun n os => cell_grown (n := n) (os := os) (a := ⟨g1, o1 + k * 5 + 3, none⟩) l2 c3
          have P4 := fun n os => cell_grown (n := n) (os := os) (a := ⟨g1, o1 + k * 5 + 4, none⟩) l2 c4
          go_wp2_with fail
          refine wp_region_quiet_grown mixed (by kernel_rfl) ?_
          repeat (go_big_quiet_step ((go_at_call 26; refine Calls.grown_of (HS2.out _))))
          refine wpQuiet_nil ?_
          intro _ hw'
          obtain ⟨⟨nq2, osq2⟩, hw''⟩ := hw'
          subst hw''
          have B4 := mkHid (HG3.out nq2 osq2)
          have b4 := mkHid (HG3b.out nq2 osq2)
          clear F0 F1 F2 F3 F4 P0 P1 P2 P3 P4 f0 f1 f2 f3 f4 c0 c1 c2 c3 c4 HG3 HG3b hwr2 l2
          generalize grow (V.drewN nq2) osq2 = U at *
          obtain ⟨a1, e1, w1, a2, e2, w2, a3, e3, w3, happ1, happ2, happ3, ho, hg, hB, hcap, hB1⟩ := three (some ⟨g1, o1, none⟩) c l x0 x1 x2 x3 x4 k U hkl hl hc (HA.out.below B4.out)
          obtain ⟨d0, d1, d2, d3, d4⟩ := cel5 (blk_below b4.out hB1)
          have HQ : Hid (PtPost w (some ⟨g1, o1, none⟩) (put l (x0, x1, x2, x3, x4)) (.returned (.slice a3 (k + 1 + (l.length - k)) e3)) w3) := mkHid (pt_of (by rw [HP.out, ins_len _ _ _ hkl]) (by rw [HP.out]; exact ho) (.inr (fun b o s e => Nat.le_trans B4.out.size (hg b o s e))) (below_trans B4.out hB) hcap)
          clear ho hg hB hcap hB1 HP B4 b4
          go_wp2
          go_ret
          exact HQ.out
    · obtain rfl : k = l.length := by omega
      have hltn : (l.length < l.length) = False := by simp
      have hk : spot (x0, x1, x2, x3, x4) l 0 = l.length := by rw [hE.out, List.drop_of_length_le (Nat.le_refl _)]; rfl
      have hp := put_ins (l := l) hk (fun f hf => by rw [List.getElem?_eq_none (Nat.le_refl _)] at hf; cases hf)
      have hl0 := ins_len l (x0, x1, x2, x3, x4) l.length (Nat.le_refl _)
      have HTh := mkHid (fun (U : World) (hU : Below w.heap.size w U) => three a c l x0 x1 x2 x3 x4 l.length U hkl hl hc (HA.out.below hU))
      have HP := mkHid hp
      rw [Nat.sub_self] at hS2 hl0 HTh
      rw [Nat.add_zero] at hl0 HTh
      have HQ : Hid (∀ (U : World) (a3 : Option Addr) (e3 : Nat) (w3 : World), Below w.heap.size w U → Rd w3 a3 (cs (l.take l.length ++ [(x0, x1, x2, x3, x4)] ++ l.drop l.length)) → (∀ b o s, a3 = some ⟨b, o, s⟩ → U.heap.size ≤ b) → Below U.heap.size U w3 → l.length + 1 ≤ e3 → PtPost w a (put l (x0, x1, x2, x3, x4)) (.returned (.slice a3 (l.length + 1) e3)) w3) := mkHid (fun U a3 e3 w3 h1 h2 h3 h4 h5 => pt_of (by rw [HP.out, hl0]) (by rw [HP.out]; exact h2) (.inr (fun b o s e => Nat.le_trans h1.size (h3 b o s e))) (below_trans h1 h4) h5)
      have HBD : Hid (∀ n, Below w.heap.size w (wr.drewN n)) := mkHid (fun n => below_drewN HB.out)
      have HbD : Hid (∀ n, (wr.drewN n).heap[w.heap.size]? = some (.cells #[.string x0, .string x1, .int .i64 x2, .int .i64 x3, .int .i64 x4] 37)) := mkHid (fun n => hb.out)
      clear hE hk hp hl0 HP HG HGb HB hb
      go_wp2_with fail
      go_quiet (fail)
      have B3 := mkHid (HBD.out nq)
      have b3 := mkHid (HbD.out nq)
      clear HBD HbD f0 f1 f2 f3 f4
      generalize wr.drewN nq = V at *
      go_wp2_with fail
      go_quiet (fail)
      have B4 := mkHid (below_drewN (n := nq) B3.out)
      have b4 : Hid ((V.drewN nq).heap[w.heap.size]? = some (.cells #[.string x0, .string x1, .int .i64 x2, .int .i64 x3, .int .i64 x4] 37)) := mkHid b3.out
      clear B3 b3
      generalize V.drewN nq = U at *
      obtain ⟨a1, e1, w1, a2, e2, w2, a3, e3, w3, happ1, happ2, happ3, ho, hg, hB, hcap, hB1⟩ := HTh.out U B4.out
      obtain ⟨d0, d1, d2, d3, d4⟩ := cel5 (blk_below b4.out hB1)
      have HF := mkHid (HQ.out U a3 e3 w3 B4.out ho hg hB hcap)
      clear ho hg hB hcap hB1 HQ HTh B4 b4
      go_wp2
      go_ret
      exact HF.out
/-- a copy of its own -/
theorem copyS_any (a : Option Addr) (c : Nat) (l : List Pl) (w : World) (hl : l.length ≤ 1048576) (hr : Rd w a (cs l)) :
    Calls Try.prog 31 #[.slice a l.length c] w fun e w' => ∃ a' c', e = .returned (.slice a' l.length c') ∧ Rd w' a' (cs l) ∧ (∀ b o s, a' = some ⟨b, o, s⟩ → w.heap.size ≤ b) ∧ Below w.heap.size w w' ∧ l.length ≤ c' := by
  have hB0 := below_alloc1 w (.cells #[] 37)
  obtain ⟨v1, w1, happ1, hown1, hgr1⟩ := appRP (w.alloc (.cells #[] 37)) w.heap.size _ 0 [] (empty_row w) hB0.size a c l (hr.alloc _) (by omega)
  rw [Nat.zero_add] at hown1
  obtain ⟨a1, c1, rfl⟩ := slice_of hown1
  have hB1 : Below w.heap.size w w1 := hB0.grown hgr1 hB0.size (fun j hj => ((empty_row w).lt j hj).1)
  have HF : Hid (Rd w1 a1 (cs l) ∧ (∀ b o s, a1 = some ⟨b, o, s⟩ → w.heap.size ≤ b) ∧ Below w.heap.size w w1 ∧ l.length ≤ c1) := mkHid ⟨own_rd hown1, fun b o s e => (hown1.lt b (by rw [e]; rfl)).1, hB1, (cap_of hown1).2⟩
  clear hown1 hgr1 hB0 hB1 hr
  go_enter Try.func31, Try.ntmps31
  go_wp2
  go_ret
  exact ⟨a1, c1, rfl, HF.out⟩
end Go.Proofs.Ytppjbmmeacmoiaa.plc
