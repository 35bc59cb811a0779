/-
  What laws.markBlobS and laws.heldBlobS answer and leave. Conditions: at most 1,048,576 blobs, which lie in memory; a row that is written lies in a block of its own.
-/
import Derived.Test.YtfochhnaodgpeaaDoorCells
import Derived.Test.YtfochhnaodgpeaaDoorStrs
namespace Go.Proofs.YtfochhnaodgpeaaDoor.lwb
open Go.RowKit Go.Joins
open Go.Proofs.YtfochhnaodgpeaaDoor.base Go.Proofs.YtfochhnaodgpeaaDoor.blk Go.Proofs.YtfochhnaodgpeaaDoor.aid
open Go.Proofs.YtfochhnaodgpeaaDoor.row (bl en Rd Own OwnV)
open Go.Proofs.YtfochhnaodgpeaaDoor.strs (mk)
set_option linter.unusedVariables false

/-- marks from m on, n blobs -/
def mb (m n : Nat) : List (Int × ByteArray) := (List.range n).map fun (i : Nat) => (((m + 2 * i : Nat) : Int), mk (m + 2 * i + 1))
theorem mb_len (m n : Nat) : (mb m n).length = n := by simp [mb]
theorem mb_at (m n i : Nat) (h : i < n) : (mb m n)[i]? = some (((m + 2 * i : Nat) : Int), mk (m + 2 * i + 1)) := by simp [mb, h]
def mkd (m : Nat) (l : List (Int × ByteArray)) (i : Nat) : List (Int × ByteArray) := (mb m l.length).take i ++ l.drop i
theorem mkd_zero (m : Nat) (l : List (Int × ByteArray)) : mkd m l 0 = l := by simp [mkd]
theorem mkd_all (m : Nat) (l : List (Int × ByteArray)) : mkd m l l.length = mb m l.length := by
  unfold mkd
  rw [List.take_of_length_le (by rw [mb_len]; exact Nat.le_refl _)]
  simp
theorem mkd_len (m : Nat) (l : List (Int × ByteArray)) (i : Nat) (h : i ≤ l.length) : (mkd m l i).length = l.length := by simp [mkd, mb_len]; omega
theorem mkd_next (m : Nat) (l : List (Int × ByteArray)) (i : Nat) (h : i < l.length) : (mkd m l i).set i (((m + 2 * i : Nat) : Int), mk (m + 2 * i + 1)) = mkd m l (i + 1) := by
  unfold mkd
  have e2 : ((mb m l.length).take i).length = i := by simp [mb_len]; omega
  rw [List.set_append_right _ _ (by rw [e2]; exact Nat.le_refl _), e2, Nat.sub_self, List.drop_eq_getElem_cons h, List.set_cons_zero, List.take_add_one, mb_at m _ i h]
  simp
theorem bl_set : ∀ (l : List (Int × ByteArray)) (i : Nat) (x : Int) (y : ByteArray), i < l.length → ((bl l).set (i * 2) (.int .i64 x)).set (i * 2 + 1) (.string y) = bl (l.set i (x, y))
  | [], i, x, y, h => by simp at h
  | c :: l, 0, x, y, h => by simp [row.bl_cons]
  | c :: l, i + 1, x, y, h => by
    rw [row.bl_cons, List.set_cons_succ, row.bl_cons, ← bl_set l i x y (by simpa using h)]
    have e : (i + 1) * 2 = i * 2 + 1 + 1 := by omega
    rw [e]
    simp only [List.set_cons_succ]
theorem bl_set1 : ∀ (l : List (Int × ByteArray)) (i : Nat) (x : Int) (z : Int × ByteArray), l[i]? = some z → (bl l).set (i * 2) (.int .i64 x) = bl (l.set i (x, z.2))
  | [], i, x, z, h => by simp at h
  | c :: l, 0, x, z, h => by
    simp at h
    subst h
    simp [row.bl_cons]
  | c :: l, i + 1, x, z, h => by
    rw [row.bl_cons, List.set_cons_succ, row.bl_cons, ← bl_set1 l i x z (by simpa using h)]
    have e : (i + 1) * 2 = i * 2 + 1 + 1 := by omega
    rw [e]
    simp only [List.set_cons_succ]

theorem set_same {xs : List Value} {i : Nat} {v : Value} (h : xs[i]? = some v) : xs.set i v = xs := by
  apply List.ext_getElem?
  intro j
  by_cases e : i = j
  · subst e
    rw [List.getElem?_set_self (List.getElem?_eq_some_iff.1 h).1, h]
  · rw [List.getElem?_set_ne e]

set_option maxRecDepth 100000 in
theorem markB_any (g cap : Nat) (l : List (Int × ByteArray)) (m : Nat) (w : World) (hl : l.length ≤ 1048576) (hm1 : m ≤ 3000000) (hr : Own 37 w g (bl l)) :
    Calls Tryd.prog 57 #[.slice (some ⟨g, 0, none⟩) l.length cap, .int .i64 m] w fun e w' => e = .returned (.int .i64 ((m : Int) + 2 * l.length)) ∧ Own 37 w' g (bl (mb m l.length)) ∧ w.grownBy w' (some g) := by
  have hmi : (m : Int) ≤ 3000000 := by omega
  go_enter Tryd.func57, Tryd.ntmps57
  go_wp2
  go_loopw [1, 5] (fun c i wr => ∃ k : Nat, k ≤ l.length ∧ i = .int .i64 k ∧ c = .int .i64 ((m : Int) + 2 * k) ∧ Hid (Own 37 wr g (bl (mkd m l k)) ∧ w.grownBy wr (some g)))
    (fun _ i _ => l.length - (intOf i).toNat)
  case atStart => exact ⟨0, Nat.zero_le _, rfl, by simp, mkHid ⟨by rw [mkd_zero]; exact hr, grew_refl _ _⟩⟩
  case round =>
    obtain ⟨k, hk, rfl, rfl, hrow⟩ := hrel
    by_cases hlt : k < l.length
    · have hlti : (k : Int) < (l.length : Int) := by omega
      have hki : (k : Int) ≤ 1048576 := by omega
      have HT : Hid (∀ wx, Calls Tryd.prog 61 #[.int .i64 ((m : Int) + 2 * k + 1)] wx fun e w' => e = .returned (.string (mk (m + 2 * k + 1))) ∧ Below wx.heap.size wx w') := mkHid (fun wx => by
        have h := strs.markText_any (m + 2 * k + 1) wx (by omega)
        simpa using h)
      obtain ⟨y, hy⟩ : ∃ y, (mkd m l k)[k]? = some y := ⟨_, List.getElem?_eq_getElem (by rw [mkd_len m l k hk]; exact hlt)⟩
      obtain ⟨b0, b1⟩ := row.bl_at _ _ _ hy
      have c0 := hrow.out.1.cell b0
      have c1 := hrow.out.1.cell b1
      have hf : ∀ j, wr.frozen? ⟨g, j, none⟩ = false := hrow.out.1.free
      have hkl : k * 2 < (bl (mkd m l k)).length := by rw [row.bl_len, mkd_len m l k hk]; omega
      have O1 : Hid (Own 37 (wr.setCell ⟨g, k * 2, none⟩ (.int .i64 ((m : Int) + 2 * k))) g (bl ((mkd m l k).set k (((m + 2 * k : Nat) : Int), y.2))) ∧ w.grownBy (wr.setCell ⟨g, k * 2, none⟩ (.int .i64 ((m : Int) + 2 * k))) (some g)) := mkHid ⟨by
        have h := hrow.out.1.set (k * 2) hkl (.int .i64 ((m : Int) + 2 * k))
        rw [← bl_set1 _ _ _ _ hy]
        simpa using h, grew_grew hrow.out.2 (grew_cell _ _ _ _)⟩
      have HL : Hid (((mkd m l k).set k (((m + 2 * k : Nat) : Int), y.2)).length = l.length) := mkHid (by rw [List.length_set, mkd_len m l k hk])
      have HX : Hid (((mkd m l k).set k (((m + 2 * k : Nat) : Int), y.2)).set k (((m + 2 * k : Nat) : Int), mk (m + 2 * k + 1)) = mkd m l (k + 1)) := mkHid (by rw [List.set_set, mkd_next m l k hlt])
      have HY : Hid (((mkd m l k).set k (((m + 2 * k : Nat) : Int), y.2))[k]? = some (((m + 2 * k : Nat) : Int), y.2)) := mkHid (by rw [List.getElem?_set_self (by rw [mkd_len m l k hk]; exact hlt)])
      generalize (mkd m l k).set k (((m + 2 * k : Nat) : Int), y.2) = l1 at *
      clear hr hrow b0 b1 hy hkl
      go_wp2_with fail
      refine (HT.out _).mono ?_
      rintro e w1 ⟨rfl, hb1⟩
      have O2 := mkHid (And.intro (O1.out.1.below hb1) (grew_below O1.out.2 hb1))
      obtain ⟨b0, b1⟩ := row.bl_at _ _ _ HY.out
      have c3 := O2.out.1.cell b1
      have hf3 : ∀ j, w1.frozen? ⟨g, j, none⟩ = false := O2.out.1.free
      have N1 : Hid (Own 37 (w1.setCell ⟨g, k * 2 + 1, none⟩ (.string (mk (m + 2 * k + 1)))) g (bl (mkd m l (k + 1))) ∧ w.grownBy (w1.setCell ⟨g, k * 2 + 1, none⟩ (.string (mk (m + 2 * k + 1)))) (some g)) := mkHid ⟨by
        have h := O2.out.1.set (k * 2 + 1) (by rw [row.bl_len, HL.out]; omega) (.string (mk (m + 2 * k + 1)))
        have e0 : (bl l1).set (k * 2 + 1) (.string (mk (m + 2 * k + 1))) = bl (mkd m l (k + 1)) := by
          rw [← HX.out, ← bl_set l1 k _ _ (by rw [HL.out]; exact hlt), set_same b0]
        rw [e0] at h
        exact h, grew_grew O2.out.2 (grew_cell _ _ _ _)⟩
      clear hb1 O1 O2 b0 b1 c0 c1 hf HL HX HY HT
      go_wp2
      go_roundw
      case rel => exact ⟨k + 1, by omega, by go_num, by go_num, N1⟩
      case measure => simp [intOf]; omega
    · obtain rfl : k = l.length := by omega
      have R := hrow.out
      rw [mkd_all] at R
      have R' := mkHid R
      clear R hrow hr
      go_wp2
      go_ret
      exact ⟨rfl, R'.out.1, R'.out.2⟩
set_option maxRecDepth 100000 in
theorem heldB_any (a : Option Addr) (cap n : Nat) (m : Nat) (w : World) (hl : n ≤ 1048576) (hm1 : m ≤ 3000000) (hr : Rd w a (bl (mb m n))) :
    Calls Tryd.prog 58 #[.slice a n cap, .int .i64 m] w fun e w' => e = .returned (.int .i64 ((m : Int) + 2 * n)) ∧ Below w.heap.size w w' := by
  have hmi : (m : Int) ≤ 3000000 := by omega
  go_enter Tryd.func58, Tryd.ntmps58
  go_wp2
  go_loopw [1, 5] (fun c i wr => ∃ k : Nat, k ≤ n ∧ i = .int .i64 k ∧ c = .int .i64 ((m : Int) + 2 * k) ∧ Hid (Below w.heap.size w wr))
    (fun _ i _ => n - (intOf i).toNat)
  case atStart => exact ⟨0, Nat.zero_le _, rfl, by simp, mkHid (Below.refl _ _)⟩
  case round =>
    obtain ⟨k, hk, rfl, rfl, hb⟩ := hrel
    by_cases hlt : k < n
    · obtain ⟨b, off, rfl, c0, c1, hbl⟩ := hr.blob (mb_at m n k hlt)
      have hlti : (k : Int) < (n : Int) := by omega
      have hki : (k : Int) ≤ 1048576 := by omega
      have e0 : wr.cell? ⟨b, off + k * 2, none⟩ = some (.int .i64 ((m : Int) + 2 * k)) := by
        have h := (hb.out.cell (p := ⟨b, off + k * 2, none⟩) hbl).trans c0
        simpa using h
      have HC := mkHid ((hb.out.cell (p := ⟨b, off + k * 2 + 1, none⟩) hbl).trans c1)
      have HT : Hid (∀ wx, Calls Tryd.prog 61 #[.int .i64 ((m : Int) + 2 * k + 1)] wx fun e w' => e = .returned (.string (mk (m + 2 * k + 1))) ∧ Below wx.heap.size wx w') := mkHid (fun wx => by
        have h := strs.markText_any (m + 2 * k + 1) wx (by omega)
        simpa using h)
      have e1 := HC.out
      generalize mk (m + 2 * k + 1) = t at *
      have hk0 : ((m : Int) + 2 * k != (m : Int) + 2 * k) = false := by simp
      have ht0 : (!t.toList == t.toList) = false := by simp
      clear hr c0 c1
      go_wp2_with fail
      go_region_held3 (fun w' => w'.cell? ⟨b, off + k * 2 + 1, none⟩ = some (.string t)) (go_keep)
        ((go_at_call 61; refine Calls.mono (HT.out _) ?_; rintro e w1 ⟨rfl, hb1⟩; have hr1 := re (w := wr) hb1 rfl rfl rfl rfl; have B1 := mkHid (hb.out.trans (hr1.mono hb.out.size)); have q1 := (hr1.cell (p := ⟨b, off + k * 2 + 1, none⟩) (World.block_lt_of_cell? wr _ HC.out)).trans HC.out; clear hb1 hr1))
      go_wp2
      go_roundw
      case rel => exact ⟨k + 1, by omega, by go_num, by go_num, B1⟩
      case measure => simp [intOf]; omega
    · obtain rfl : k = n := by omega
      clear hr
      go_wp2
      go_ret
      exact ⟨rfl, hb.out⟩

theorem markB_nil (cap : Nat) (a : Option Addr) (m : Nat) (w : World) :
    Calls Tryd.prog 57 #[.slice a 0 cap, .int .i64 m] w fun e w' => e = .returned (.int .i64 m) ∧ w' = w := by
  go_enter Tryd.func57, Tryd.ntmps57
  go_wp2
  go_loopw [1, 5] (fun c i wr => i = .int .i64 0 ∧ c = .int .i64 m ∧ wr = w) (fun _ i _ => 0)
  case atStart => exact ⟨rfl, rfl, rfl⟩
  case round =>
    obtain ⟨rfl, rfl, rfl⟩ := hrel
    go_wp2
    go_ret
    exact ⟨rfl, rfl⟩

theorem markVB_any (a : Option Addr) (cap : Nat) (l : List (Int × ByteArray)) (m : Nat) (w : World) (hl : l.length ≤ 1048576) (hm1 : m ≤ 3000000) (hr : OwnV 37 w a (bl l)) :
    Calls Tryd.prog 57 #[.slice a l.length cap, .int .i64 m] w fun e w' => e = .returned (.int .i64 ((m : Int) + 2 * l.length)) ∧ OwnV 37 w' a (bl (mb m l.length)) ∧ w.grownBy w' (a.map (·.block)) := by
  rcases hr with h0 | ⟨g, rfl, ho⟩
  · have hl0 : l = [] := by
      cases l with
      | nil => rfl
      | cons b r => rw [row.bl_cons] at h0; cases h0
    subst hl0
    refine (markB_nil cap a m w).mono ?_
    rintro e w1 ⟨rfl, rfl⟩
    exact ⟨by simp, .inl rfl, grew_refl _ _⟩
  · refine (markB_any g cap l m w hl hm1 ho).mono ?_
    rintro e w1 ⟨rfl, h1, h2⟩
    exact ⟨rfl, .inr ⟨g, rfl, h1⟩, h2⟩
end Go.Proofs.YtfochhnaodgpeaaDoor.lwb
