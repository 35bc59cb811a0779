/-
  What laws.markEntryS and laws.heldEntryS answer and leave. Conditions: at most 100,000 entries, which lie in memory; a row that is written lies in a block of its own.
-/
import Derived.Test.YtfochhnaodgpeaaDoorCells
import Derived.Test.YtfochhnaodgpeaaDoorStrs
namespace Go.Proofs.YtfochhnaodgpeaaDoor.lwb
open Go.RowKit Go.Joins
open Go.Proofs.YtfochhnaodgpeaaDoor.base Go.Proofs.YtfochhnaodgpeaaDoor.blk Go.Proofs.YtfochhnaodgpeaaDoor.aid
open Go.Proofs.YtfochhnaodgpeaaDoor.row (bl en Rd Own OwnV)
open Go.Proofs.YtfochhnaodgpeaaDoor.strs (mk)
set_option linter.unusedVariables false

/-- marks from m on, n entries -/
def me1 (m i : Nat) : ByteArray × Int × Int × Int := (mk (m + 4 * i), (m : Int) + 4 * i + 1, (m : Int) + 4 * i + 1 + 1, (m : Int) + 4 * i + 1 + 1 + 1)
def me (m n : Nat) : List (ByteArray × Int × Int × Int) := (List.range n).map (me1 m)
theorem me_len (m n : Nat) : (me m n).length = n := by simp [me]
theorem me_at (m n i : Nat) (h : i < n) : (me m n)[i]? = some (me1 m i) := by simp [me, h]
def mkE (m : Nat) (l : List (ByteArray × Int × Int × Int)) (i : Nat) : List (ByteArray × Int × Int × Int) := (me m l.length).take i ++ l.drop i
theorem mkE_zero (m : Nat) (l : List (ByteArray × Int × Int × Int)) : mkE m l 0 = l := by simp [mkE]
theorem mkE_all (m : Nat) (l : List (ByteArray × Int × Int × Int)) : mkE m l l.length = me m l.length := by
  unfold mkE
  rw [List.take_of_length_le (by rw [me_len]; exact Nat.le_refl _)]
  simp
theorem mkE_len (m : Nat) (l : List (ByteArray × Int × Int × Int)) (i : Nat) (h : i ≤ l.length) : (mkE m l i).length = l.length := by simp [mkE, me_len]; omega
theorem mkE_next (m : Nat) (l : List (ByteArray × Int × Int × Int)) (i : Nat) (h : i < l.length) : (mkE m l i).set i (me1 m i) = mkE m l (i + 1) := by
  unfold mkE
  have e2 : ((me m l.length).take i).length = i := by simp [me_len]; omega
  rw [List.set_append_right _ _ (by rw [e2]; exact Nat.le_refl _), e2, Nat.sub_self, List.drop_eq_getElem_cons h, List.set_cons_zero, List.take_add_one, me_at m _ i h]
  simp
theorem en_set : ∀ (l : List (ByteArray × Int × Int × Int)) (i : Nat) (x : ByteArray) (a b c : Int), i < l.length → ((((en l).set (i * 4) (.string x)).set (i * 4 + 1) (.int .i64 a)).set (i * 4 + 2) (.int .i64 b)).set (i * 4 + 3) (.int .i64 c) = en (l.set i (x, a, b, c))
  | [], i, x, a, b, c, h => by simp at h
  | z :: l, 0, x, a, b, c, h => by simp [row.en_cons]
  | z :: l, i + 1, x, a, b, c, h => by
    rw [row.en_cons, List.set_cons_succ, row.en_cons, ← en_set l i x a b c (by simpa using h)]
    have e : (i + 1) * 4 = i * 4 + 1 + 1 + 1 + 1 := by omega
    rw [e]
    simp only [List.set_cons_succ]

set_option maxRecDepth 100000 in
theorem markE_any (g cap : Nat) (l : List (ByteArray × Int × Int × Int)) (m : Nat) (w : World) (hl : l.length ≤ 100000) (hm1 : m ≤ 3000000) (hr : Own 57 w g (en l)) :
    Calls Tryd.prog 32 #[.slice (some ⟨g, 0, none⟩) l.length cap, .int .i64 m] w fun e w' => e = .returned (.int .i64 ((m : Int) + 4 * l.length)) ∧ Own 57 w' g (en (me m l.length)) ∧ w.grownBy w' (some g) := by
  have hmi : (m : Int) ≤ 3000000 := by omega
  go_enter Tryd.func32, Tryd.ntmps32
  go_wp2
  go_loopw [1, 5] (fun c i wr => ∃ k : Nat, k ≤ l.length ∧ i = .int .i64 k ∧ c = .int .i64 ((m : Int) + 4 * k) ∧ Hid (Own 57 wr g (en (mkE m l k)) ∧ w.grownBy wr (some g)))
    (fun _ i _ => l.length - (intOf i).toNat)
  case atStart => exact ⟨0, Nat.zero_le _, rfl, by simp, mkHid ⟨by rw [mkE_zero]; exact hr, grew_refl _ _⟩⟩
  case round =>
    obtain ⟨k, hk, rfl, rfl, hrow⟩ := hrel
    by_cases hlt : k < l.length
    · have hlti : (k : Int) < (l.length : Int) := by omega
      have hki : (k : Int) ≤ 100000 := by omega
      have HT : Hid (∀ wx, Calls Tryd.prog 61 #[.int .i64 ((m : Int) + 4 * k)] wx fun e w' => e = .returned (.string (mk (m + 4 * k))) ∧ Below wx.heap.size wx w') := mkHid (fun wx => by
        have h := strs.markText_any (m + 4 * k) wx (by omega)
        simpa using h)
      obtain ⟨y, hy⟩ : ∃ y, (mkE m l k)[k]? = some y := ⟨_, List.getElem?_eq_getElem (by rw [mkE_len m l k hk]; exact hlt)⟩
      have HY := mkHid hy
      clear hr hy
      go_wp2_with fail
      refine (HT.out _).mono ?_
      rintro e w1 ⟨rfl, hb1⟩
      have O2 := mkHid (And.intro (hrow.out.1.below hb1) (grew_below hrow.out.2 hb1))
      obtain ⟨b0, b1, b2, b3⟩ := row.en_at _ _ _ HY.out
      have c0 := O2.out.1.cell b0
      have c1 := O2.out.1.cell b1
      have c2 := O2.out.1.cell b2
      have c3 := O2.out.1.cell b3
      have hf3 : ∀ j, w1.frozen? ⟨g, j, none⟩ = false := O2.out.1.free
      have hkl : (en (mkE m l k)).length = 4 * l.length := by rw [row.en_len, mkE_len m l k hk]
      have N1 : Hid (Own 57 ((((w1.setCell ⟨g, k * 4, none⟩ (.string (mk (m + 4 * k)))).setCell ⟨g, k * 4 + 1, none⟩ (.int .i64 ((m : Int) + 4 * k + 1))).setCell ⟨g, k * 4 + 2, none⟩ (.int .i64 ((m : Int) + 4 * k + 1 + 1))).setCell ⟨g, k * 4 + 3, none⟩ (.int .i64 ((m : Int) + 4 * k + 1 + 1 + 1))) g (en (mkE m l (k + 1))) ∧
          w.grownBy ((((w1.setCell ⟨g, k * 4, none⟩ (.string (mk (m + 4 * k)))).setCell ⟨g, k * 4 + 1, none⟩ (.int .i64 ((m : Int) + 4 * k + 1))).setCell ⟨g, k * 4 + 2, none⟩ (.int .i64 ((m : Int) + 4 * k + 1 + 1))).setCell ⟨g, k * 4 + 3, none⟩ (.int .i64 ((m : Int) + 4 * k + 1 + 1 + 1))) (some g)) := mkHid ⟨by
        have h := (((O2.out.1.set (k * 4) (by omega) (.string (mk (m + 4 * k)))).set (k * 4 + 1) (by simp; omega) (.int .i64 ((m : Int) + 4 * k + 1))).set (k * 4 + 2) (by simp; omega) (.int .i64 ((m : Int) + 4 * k + 1 + 1))).set (k * 4 + 3) (by simp; omega) (.int .i64 ((m : Int) + 4 * k + 1 + 1 + 1))
        rw [en_set _ _ _ _ _ _ (by rw [mkE_len m l k hk]; exact hlt)] at h
        have e0 := mkE_next m l k hlt
        unfold me1 at e0
        rw [e0] at h
        exact h, grew_grew (grew_grew (grew_grew (grew_grew O2.out.2 (grew_cell _ _ _ _)) (grew_cell _ _ _ _)) (grew_cell _ _ _ _)) (grew_cell _ _ _ _)⟩
      clear hb1 O2 b0 b1 b2 b3 HY HT hrow hkl
      go_wp2
      exact ⟨⟨k + 1, by omega, by go_num, by go_num, N1⟩, by simp [intOf]; omega⟩
    · obtain rfl : k = l.length := by omega
      have R := hrow.out
      rw [mkE_all] at R
      have R' := mkHid R
      clear R hrow hr
      go_wp2
      go_ret
      exact ⟨rfl, R'.out.1, R'.out.2⟩

set_option maxRecDepth 100000 in
theorem heldE_any (a : Option Addr) (cap n : Nat) (m : Nat) (w : World) (hl : n ≤ 100000) (hm1 : m ≤ 3000000) (hr : Rd w a (en (me m n))) :
    Calls Tryd.prog 33 #[.slice a n cap, .int .i64 m] w fun e w' => e = .returned (.int .i64 ((m : Int) + 4 * n)) ∧ Below w.heap.size w w' := by
  have hmi : (m : Int) ≤ 3000000 := by omega
  go_enter Tryd.func33, Tryd.ntmps33
  go_wp2
  go_loopw [1, 5] (fun c i wr => ∃ k : Nat, k ≤ n ∧ i = .int .i64 k ∧ c = .int .i64 ((m : Int) + 4 * k) ∧ Hid (Below w.heap.size w wr))
    (fun _ i _ => n - (intOf i).toNat)
  case atStart => exact ⟨0, Nat.zero_le _, rfl, by simp, mkHid (Below.refl _ _)⟩
  case round =>
    obtain ⟨k, hk, rfl, rfl, hb⟩ := hrel
    by_cases hlt : k < n
    · obtain ⟨b, off, rfl, c0, c1, c2, c3, hbl⟩ := hr.entry (me_at m n k hlt)
      have hlti : (k : Int) < (n : Int) := by omega
      have hki : (k : Int) ≤ 100000 := by omega
      simp only [me1] at c0 c1 c2 c3
      have HC := mkHid (And.intro ((hb.out.cell (p := ⟨b, off + k * 4, none⟩) hbl).trans c0) (And.intro ((hb.out.cell (p := ⟨b, off + k * 4 + 1, none⟩) hbl).trans c1) (And.intro ((hb.out.cell (p := ⟨b, off + k * 4 + 2, none⟩) hbl).trans c2) ((hb.out.cell (p := ⟨b, off + k * 4 + 3, none⟩) hbl).trans c3))))
      have HT : Hid (∀ wx, Calls Tryd.prog 61 #[.int .i64 ((m : Int) + 4 * k)] wx fun e w' => e = .returned (.string (mk (m + 4 * k))) ∧ Below wx.heap.size wx w') := mkHid (fun wx => by
        have h := strs.markText_any (m + 4 * k) wx (by omega)
        simpa using h)
      generalize mk (m + 4 * k) = t at *
      have e0 := HC.out.1
      have hk1 : ((m : Int) + 4 * k + 1 != (m : Int) + 4 * k + 1) = false := by simp
      have hk2 : ((m : Int) + 4 * k + 1 + 1 != (m : Int) + 4 * k + 1 + 1) = false := by simp
      have hk3 : ((m : Int) + 4 * k + 1 + 1 + 1 != (m : Int) + 4 * k + 1 + 1 + 1) = false := by simp
      have ht0 : (!t.toList == t.toList) = false := by simp
      clear hr c0 c1 c2 c3
      go_wp2_with fail
      go_region_held3 (fun w' => w'.cell? ⟨b, off + k * 4, none⟩ = some (.string t)) (go_keep)
        ((go_at_call 61; refine Calls.mono (HT.out _) ?_; rintro e w1 ⟨rfl, hb1⟩; have hr1 := re (w := wr) hb1 rfl rfl rfl rfl; have B1 := mkHid (hb.out.trans (hr1.mono hb.out.size)); have q0 := (hr1.cell (p := ⟨b, off + k * 4, none⟩) (World.block_lt_of_cell? wr _ HC.out.1)).trans HC.out.1; have q1 := (hr1.cell (p := ⟨b, off + k * 4 + 1, none⟩) (World.block_lt_of_cell? wr _ HC.out.2.1)).trans HC.out.2.1; have q2 := (hr1.cell (p := ⟨b, off + k * 4 + 2, none⟩) (World.block_lt_of_cell? wr _ HC.out.2.2.1)).trans HC.out.2.2.1; have q3 := (hr1.cell (p := ⟨b, off + k * 4 + 3, none⟩) (World.block_lt_of_cell? wr _ HC.out.2.2.2)).trans HC.out.2.2.2; clear hb1 hr1))
      go_wp2
      exact ⟨⟨k + 1, by omega, by go_num, by go_num, B1⟩, by simp [intOf]; omega⟩
    · obtain rfl : k = n := by omega
      clear hr
      go_wp2
      go_ret
      exact ⟨rfl, hb.out⟩

theorem markE_nil (cap : Nat) (a : Option Addr) (m : Nat) (w : World) :
    Calls Tryd.prog 32 #[.slice a 0 cap, .int .i64 m] w fun e w' => e = .returned (.int .i64 m) ∧ w' = w := by
  go_enter Tryd.func32, Tryd.ntmps32
  go_wp2
  go_loopw [1, 5] (fun c i wr => i = .int .i64 0 ∧ c = .int .i64 m ∧ wr = w) (fun _ i _ => 0)
  case atStart => exact ⟨rfl, rfl, rfl⟩
  case round =>
    obtain ⟨rfl, rfl, rfl⟩ := hrel
    go_wp2
    go_ret
    exact ⟨rfl, rfl⟩

theorem markVE_any (a : Option Addr) (cap : Nat) (l : List (ByteArray × Int × Int × Int)) (m : Nat) (w : World) (hl : l.length ≤ 100000) (hm1 : m ≤ 3000000) (hr : OwnV 57 w a (en l)) :
    Calls Tryd.prog 32 #[.slice a l.length cap, .int .i64 m] w fun e w' => e = .returned (.int .i64 ((m : Int) + 4 * l.length)) ∧ OwnV 57 w' a (en (me m l.length)) ∧ w.grownBy w' (a.map (·.block)) := by
  rcases hr with h0 | ⟨g, rfl, ho⟩
  · have hl0 : l = [] := by
      cases l with
      | nil => rfl
      | cons b r => rw [row.en_cons] at h0; cases h0
    subst hl0
    refine (markE_nil cap a m w).mono ?_
    rintro e w1 ⟨rfl, rfl⟩
    exact ⟨by simp, .inl rfl, grew_refl _ _⟩
  · refine (markE_any g cap l m w hl hm1 ho).mono ?_
    rintro e w1 ⟨rfl, h1, h2⟩
    exact ⟨rfl, .inr ⟨g, rfl, h1⟩, h2⟩
end Go.Proofs.YtfochhnaodgpeaaDoor.lwb
