/-
  What spec.l08Bytes, DriveRight, OpRight, l08Find answer and leave. Conditions: at most 1,048,576 files, which lie in memory, of texts of at most 1,048,576 bytes.
-/
import Derived.Test.YtfckgpmphcadeaaDrvP
import Derived.Deep.RegionHeld3
import Derived.Deep.QuietTactic
import Derived.BigQuiet
import Derived.BigRegion
namespace Go.Proofs.Ytfckgpmphcadeaa.drv
open Go.RowKit Go.Joins
open Go.Proofs.Ytfckgpmphcadeaa.base Go.Proofs.Ytfckgpmphcadeaa.blk Go.Proofs.Ytfckgpmphcadeaa.aid
open Go.Proofs.Ytfckgpmphcadeaa.row (Rd Own OwnV)
open Go.Proofs.Ytfckgpmphcadeaa.rwStored (cs)
set_option linter.unusedVariables false

/-- texts are small -/
def Small (l : List (ByteArray × ByteArray × Int)) : Prop := ∀ f ∈ l, f.1.size ≤ 1048576 ∧ f.2.1.size ≤ 1048576

set_option maxRecDepth 100000 in
theorem bytes_any (a : Option Addr) (c : Nat) (l : List (ByteArray × ByteArray × Int)) (r : Int) (w : World) (hl : l.length ≤ 1048576) (hs : Small l) (hr : Rd w a (cs l)) :
    Calls Try.prog 61 #[.agg #[.slice a l.length c, .int .i64 r]] w fun e w' => e = .returned (.int .i64 (bytes l)) ∧ Below w.heap.size w w' := by
  have hc0 := (cel2 (blk_new w (.cells #[.slice a l.length c, .int .i64 r] 25) w.heap.size rfl)).1
  have hr0 := hr.alloc (.cells #[.slice a l.length c, .int .i64 r] 25)
  have hB := mkHid (below_alloc1 w (.cells #[.slice a l.length c, .int .i64 r] 25))
  have hbs := bytes_le l (fun f hf => (hs f hf).2)
  clear hr
  go_enter Try.func61, Try.ntmps61
  go_wp2_with fail
  generalize w.alloc (.cells #[.slice a l.length c, .int .i64 r] 25) = W at *
  go_loopw [3, 4] (fun n i wr => ∃ k : Nat, k ≤ l.length ∧ i = .int .i64 k ∧ n = .int .i64 (bytes (l.take k)) ∧ wr = W)
    (fun _ i _ => l.length - (intOf i).toNat)
  case atStart => exact ⟨0, Nat.zero_le _, rfl, rfl, rfl⟩
  case round =>
    obtain ⟨k, hk, rfl, rfl, rfl⟩ := hrel
    by_cases hlt : k < l.length
    · have hlti : (k : Int) < (l.length : Int) := by omega
      obtain ⟨⟨x0, x1, x2⟩, hx⟩ : ∃ y, l[k]? = some y := ⟨_, List.getElem?_eq_getElem hlt⟩
      obtain ⟨g1, o1, rfl, c0, c1, c2, l1⟩ := rwStored.el hr0 hx
      have ht : l.take (k + 1) = l.take k ++ [(x0, x1, x2)] := by rw [List.take_add_one, hx]; rfl
      have hsum : bytes (l.take (k + 1)) = bytes (l.take k) + (x1.size : Int) := by rw [ht, bytes_app]; simp [bytes]
      have h1 := bytes_pos (l.take k)
      have h2 : bytes (l.take (k + 1)) ≤ bytes l := by
        have e := bytes_app (l.take (k + 1)) (l.drop (k + 1))
        rw [List.take_append_drop] at e
        have := bytes_pos (l.drop (k + 1))
        omega
      have hxs : (x1.size : Int) ≤ 1048576 := by have := (hs _ (List.mem_of_getElem? hx)).2; simp only at this; omega
      have HS := mkHid hsum
      have hb1 : bytes (l.take k) ≤ 1099511627776 := by omega
      generalize bytes (l.take k) = z at *
      clear hx ht hsum h2 hs hr0
      go_wp2
      exact ⟨⟨k + 1, by omega, by go_num, by rw [HS.out], by trivial⟩, by simp [intOf]; omega⟩
    · obtain rfl : k = l.length := by omega
      rw [List.take_of_length_le (Nat.le_refl _)]
      go_wp2
      go_ret
      exact ⟨rfl, hB.out⟩

theorem bytes_ne {r s : ByteArray} (h : ¬ r = s) : (r.toList == s.toList) = false := by
  rw [ByteArray.toList_eq, ByteArray.toList_eq]
  simp
  intro e
  apply h
  apply ByteArray.ext
  exact e
set_option maxRecDepth 100000 in
theorem find_any (a : Option Addr) (c : Nat) (l : List (ByteArray × ByteArray × Int)) (r : Int) (n : ByteArray) (w : World) (hl : l.length ≤ 1048576) (hr : Rd w a (cs l)) :
    Calls Try.prog 104 #[.agg #[.slice a l.length c, .int .i64 r], .string n] w fun e w' => e = .returned (.int .i64 (find l n)) ∧ Below w.heap.size w w' := by
  have hc0 := (cel2 (blk_new w (.cells #[.slice a l.length c, .int .i64 r] 25) w.heap.size rfl)).1
  have hr0 := hr.alloc (.cells #[.slice a l.length c, .int .i64 r] 25)
  have hB := mkHid (below_alloc1 w (.cells #[.slice a l.length c, .int .i64 r] 25))
  clear hr
  go_enter Try.func104, Try.ntmps104
  go_wp2_with fail
  generalize w.alloc (.cells #[.slice a l.length c, .int .i64 r] 25) = W at *
  go_loopw [5] (fun i wr => ∃ k : Nat, k ≤ l.length ∧ i = .int .i64 k ∧ Hid (find l n = findF n (l.drop k) k) ∧ wr = W)
    (fun i _ => l.length - (intOf i).toNat)
  case atStart => exact ⟨0, Nat.zero_le _, rfl, mkHid (by unfold find; simp), rfl⟩
  case round =>
    obtain ⟨k, hk, rfl, hF, rfl⟩ := hrel
    by_cases hlt : k < l.length
    · have hlti : (k : Int) < (l.length : Int) := by omega
      obtain ⟨⟨x0, x1, x2⟩, hx⟩ : ∃ y, l[k]? = some y := ⟨_, List.getElem?_eq_getElem hlt⟩
      obtain ⟨g1, o1, rfl, c0, c1, c2, l1⟩ := rwStored.el hr0 hx
      have hst := findF_step l n k _ hx
      simp only at hst c0
      by_cases e : x0 = n
      · have E := mkHid (show find l n = (k : Int) by rw [hF.out, hst, if_pos e])
        have he : (x0.toList == n.toList) = true := by rw [e]; simp
        clear hF hst hx hr0
        go_wp2
        go_ret
        exact ⟨ret_eq (by rw [E.out]; rfl), hB.out⟩
      · have he := bytes_ne e
        have N1 : Hid (find l n = findF n (l.drop (k + 1)) (k + 1)) := mkHid (by rw [hF.out, hst, if_neg e])
        clear hF hst hx hr0
        go_wp2
        exact ⟨⟨k + 1, by omega, by go_num, N1, by trivial⟩, by simp [intOf]; omega⟩
    · obtain rfl : k = l.length := by omega
      have E := mkHid (show find l n = -1 by rw [hF.out, List.drop_of_length_le (Nat.le_refl _)]; rfl)
      clear hF hr0
      go_wp2
      go_ret
      exact ⟨ret_eq (by rw [E.out]; rfl), hB.out⟩
theorem empty_or (t : ByteArray) : t = ⟨#[]⟩ ∨ (t ≠ ⟨#[]⟩ ∧ t.toList.isEmpty = false) := by
  by_cases h : t = ⟨#[]⟩
  · exact .inl h
  · refine .inr ⟨h, ?_⟩
    cases hq : t.toList.isEmpty
    · rfl
    · exact absurd (ByteArray.ext (Array.toList_inj.1 (by rw [ByteArray.toList_eq] at hq; simpa using hq))) h
set_option maxRecDepth 100000 in
theorem op_any (k : Int) (n t x : ByteArray) (w : World) (h1 : n.size ≤ 1048576) (h2 : t.size ≤ 1048576) (h3 : x.size ≤ 1048576) :
    Calls Try.prog 58 #[.agg #[.int .i64 k, .string n, .string t, .string x]] w fun e w' => e = .returned (.bool (opB k n t x)) ∧ Below w.heap.size w w' := by
  have HN := mkHid (fun wx => name_spec n wx h1)
  have HT := mkHid (fun wx => name_spec t wx h2)
  have B := mkHid (below_alloc1 w (.cells #[.int .i64 k, .string n, .string t, .string x] 27))
  cases hn : nameB n with
  | false =>
    have E : Hid (opB k n t x = false) := mkHid (by unfold opB; rw [hn]; rfl)
    rw [hn] at HN
    go_enter Try.func58, Try.ntmps58
    go_wp2_with fail
    refine (HN.out _).mono ?_
    rintro e w1 ⟨rfl, rfl⟩
    go_wp2
    go_ret
    exact ⟨ret_eq (by rw [E.out]; rfl), B.out⟩
  | true =>
    have E : Hid (opB k n t x = if k = 1 then decide (t = ⟨#[]⟩) && decide (x.size ≤ 20000) else if k = 3 then nameB t && decide (x = ⟨#[]⟩) else (decide (k = 2) || decide (k = 4)) && decide (t = ⟨#[]⟩) && decide (x = ⟨#[]⟩)) := mkHid (by unfold opB; rw [hn, Bool.true_and])
    rw [hn] at HN
    have htE : t = ⟨#[]⟩ ∨ (t ≠ ⟨#[]⟩ ∧ t.toList.isEmpty = false) := empty_or t
    have hxE : x = ⟨#[]⟩ ∨ (x ≠ ⟨#[]⟩ ∧ x.toList.isEmpty = false) := empty_or x
    by_cases k1 : k = 1
    · subst k1
      rw [if_pos rfl] at E
      rcases htE with rfl | ⟨ht, hte⟩
      · by_cases hx : x.size ≤ 20000
        · have hxi : (x.size : Int) ≤ 20000 := by omega
          go_enter Try.func58, Try.ntmps58
          go_wp2_with fail
          refine (HN.out _).mono ?_
          rintro e w1 ⟨rfl, rfl⟩
          go_wp2
          go_ret
          exact ⟨ret_eq (by rw [E.out]; simp [hx]), B.out⟩
        · have hxi : 20000 < (x.size : Int) := by omega
          go_enter Try.func58, Try.ntmps58
          go_wp2_with fail
          refine (HN.out _).mono ?_
          rintro e w1 ⟨rfl, rfl⟩
          go_wp2
          go_ret
          exact ⟨ret_eq (by rw [E.out]; simp [hx]; omega), B.out⟩
      · go_enter Try.func58, Try.ntmps58
        go_wp2_with fail
        refine (HN.out _).mono ?_
        rintro e w1 ⟨rfl, rfl⟩
        go_wp2
        go_ret
        exact ⟨ret_eq (by rw [E.out]; simp [ht]), B.out⟩
    · rw [if_neg k1] at E
      by_cases k3 : k = 3
      · subst k3
        rw [if_pos rfl] at E
        rcases hxE with rfl | ⟨hx, hxe⟩
        · cases ht : nameB t with
          | false =>
            rw [ht] at HT
            go_enter Try.func58, Try.ntmps58
            go_wp2_with fail
            refine (HN.out _).mono ?_
            rintro e w1 ⟨rfl, rfl⟩
            go_wp2_with fail
            refine (HT.out _).mono ?_
            rintro e w2 ⟨rfl, rfl⟩
            go_wp2
            go_ret
            exact ⟨ret_eq (by rw [E.out]; simp [ht]), B.out⟩
          | true =>
            rw [ht] at HT
            go_enter Try.func58, Try.ntmps58
            go_wp2_with fail
            refine (HN.out _).mono ?_
            rintro e w1 ⟨rfl, rfl⟩
            go_wp2_with fail
            refine (HT.out _).mono ?_
            rintro e w2 ⟨rfl, rfl⟩
            go_wp2
            go_ret
            exact ⟨ret_eq (by rw [E.out]; simp [ht]), B.out⟩
        · cases ht : nameB t with
          | false =>
            rw [ht] at HT
            go_enter Try.func58, Try.ntmps58
            go_wp2_with fail
            refine (HN.out _).mono ?_
            rintro e w1 ⟨rfl, rfl⟩
            go_wp2_with fail
            refine (HT.out _).mono ?_
            rintro e w2 ⟨rfl, rfl⟩
            go_wp2
            go_ret
            exact ⟨ret_eq (by rw [E.out]; simp [ht]), B.out⟩
          | true =>
            rw [ht] at HT
            go_enter Try.func58, Try.ntmps58
            go_wp2_with fail
            refine (HN.out _).mono ?_
            rintro e w1 ⟨rfl, rfl⟩
            go_wp2_with fail
            refine (HT.out _).mono ?_
            rintro e w2 ⟨rfl, rfl⟩
            go_wp2
            go_ret
            exact ⟨ret_eq (by rw [E.out]; simp [hx]), B.out⟩
      · rw [if_neg k3] at E
        by_cases k2 : k = 2
        · subst k2
          rcases htE with rfl | ⟨ht, hte⟩
          · rcases hxE with rfl | ⟨hx, hxe⟩
            · go_enter Try.func58, Try.ntmps58
              go_wp2_with fail
              refine (HN.out _).mono ?_
              rintro e w1 ⟨rfl, rfl⟩
              go_wp2
              go_ret
              exact ⟨ret_eq (by rw [E.out]; simp), B.out⟩
            · go_enter Try.func58, Try.ntmps58
              go_wp2_with fail
              refine (HN.out _).mono ?_
              rintro e w1 ⟨rfl, rfl⟩
              go_wp2
              go_ret
              exact ⟨ret_eq (by rw [E.out]; simp [hx]), B.out⟩
          · go_enter Try.func58, Try.ntmps58
            go_wp2_with fail
            refine (HN.out _).mono ?_
            rintro e w1 ⟨rfl, rfl⟩
            go_wp2
            go_ret
            exact ⟨ret_eq (by rw [E.out]; simp [ht]), B.out⟩
        · by_cases k4 : k = 4
          · subst k4
            rcases htE with rfl | ⟨ht, hte⟩
            · rcases hxE with rfl | ⟨hx, hxe⟩
              · go_enter Try.func58, Try.ntmps58
                go_wp2_with fail
                refine (HN.out _).mono ?_
                rintro e w1 ⟨rfl, rfl⟩
                go_wp2
                go_ret
                exact ⟨ret_eq (by rw [E.out]; simp), B.out⟩
              · go_enter Try.func58, Try.ntmps58
                go_wp2_with fail
                refine (HN.out _).mono ?_
                rintro e w1 ⟨rfl, rfl⟩
                go_wp2
                go_ret
                exact ⟨ret_eq (by rw [E.out]; simp [hx]), B.out⟩
            · go_enter Try.func58, Try.ntmps58
              go_wp2_with fail
              refine (HN.out _).mono ?_
              rintro e w1 ⟨rfl, rfl⟩
              go_wp2
              go_ret
              exact ⟨ret_eq (by rw [E.out]; simp [ht]), B.out⟩
          · have q1 : (k == 1) = false := by simp [k1]
            have q2 : (k == 2) = false := by simp [k2]
            have q3 : (k == 3) = false := by simp [k3]
            have q4 : (k == 4) = false := by simp [k4]
            have E4 : Hid (opB k n t x = false) := mkHid (by rw [E.out]; simp [k2, k4])
            clear E
            have E := E4
            clear E4 k1 k2 k3 k4
            go_enter Try.func58, Try.ntmps58
            go_wp2_with fail
            refine (HN.out _).mono ?_
            rintro e w1 ⟨rfl, rfl⟩
            go_wp2
            go_ret
            exact ⟨ret_eq (by rw [E.out]; rfl), B.out⟩
end Go.Proofs.Ytfckgpmphcadeaa.drv
