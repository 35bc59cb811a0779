/-
  What spec.l11NodeRight answers and leaves. Conditions: a node that lies in memory, of texts of at most 1,048,576 bytes.
-/
import Derived.Test.YtmmmadehifajlaaZNdR
namespace Go.Proofs.Ytmmmadehifajlaa.nod
open Go.RowKit Go.Joins Go.Sort
open Go.Proofs.Ytmmmadehifajlaa.base Go.Proofs.Ytmmmadehifajlaa.blk Go.Proofs.Ytmmmadehifajlaa.aid
open Go.Proofs.Ytmmmadehifajlaa.ord
open Go.Proofs.Ytmmmadehifajlaa.obj (nameB)
open Go.Proofs.Ytmmmadehifajlaa.row (Rd Own OwnV)
open Go.Proofs.Ytmmmadehifajlaa.strs (tx)
set_option linter.unusedVariables false
set_option linter.unusedSimpArgs false

set_option maxRecDepth 100000 in
set_option maxHeartbeats 2000000 in
theorem nodeS_any (x0 : ByteArray) (x1 : Bool) (x2 : Int) (a : Option Addr) (c : Nat) (l : Tx) (w : World) (h0 : x0.size ≤ 1048576) (hl : l.length ≤ 1048576) (hs : FitT l) (hr : Rd w a (tx l)) :
    Calls Try.prog 52 #[.agg #[.string x0, .bool x1, .int .i64 x2, .slice a l.length c]] w fun e w' => e = .returned (.bool (nodeB (x0, x1, x2, l))) ∧ w' = w.alloc (.cells #[.string x0, .bool x1, .int .i64 x2, .slice a l.length c] 59) := by
  have HN := mkHid (fun wx => obj.name_spec x0 wx h0)
  have hli : (l.length : Int) ≤ 1048576 := by omega
  have HR := mkHid (hr.alloc (.cells #[.string x0, .bool x1, .int .i64 x2, .slice a l.length c] 59))
  obtain ⟨c0, c1, c2, c3⟩ := cel4 (blk_new w (.cells #[.string x0, .bool x1, .int .i64 x2, .slice a l.length c] 59) w.heap.size rfl)
  have HS := mkHid hs
  clear hr hs
  cases hn : nameB x0 with
  | false =>
    rw [hn] at HN
    have E := mkHid (nodeB_name (x1 := x1) (x2 := x2) (l := l) hn)
    go_enter Try.func52, Try.ntmps52
    go_wp2_with fail
    refine (HN.out _).mono ?_
    rintro e w1 ⟨rfl, rfl⟩
    go_wp2
    go_ret
    exact ⟨ret_eq (by rw [E.out]; rfl), rfl⟩
  | true =>
  rw [hn] at HN
  by_cases s3 : 100 < l.length
  · have E := mkHid (nodeB_many (x0 := x0) (x1 := x1) (x2 := x2) s3)
    have s3i : 100 < (l.length : Int) := by omega
    go_enter Try.func52, Try.ntmps52
    go_wp2_with fail
    refine (HN.out _).mono ?_
    rintro e w1 ⟨rfl, rfl⟩
    go_wp2
    go_ret
    exact ⟨ret_eq (by rw [E.out]; rfl), rfl⟩
  have s3i : (l.length : Int) ≤ 100 := by omega
  by_cases hd : x1 = true → x2 = 0 ∧ l.length = 1
  rotate_left
  · have hx1 : x1 = true := by cases x1 with
      | true => rfl
      | false => exact absurd (fun h => by cases h) hd
    subst hx1
    have hd' : ¬ (x2 = 0 ∧ l.length = 1) := fun h => hd (fun _ => h)
    have E := mkHid (nodeB_dir (x0 := x0) (x2 := x2) (l := l) hd')
    by_cases s1 : x2 = 0
    · subst s1
      have s2 : ((l.length : Int) != 1) = true := by simp; omega
      clear hd hd' hn s3
      go_enter Try.func52, Try.ntmps52
      go_wp2_with fail
      refine (HN.out _).mono ?_
      rintro e w1 ⟨rfl, rfl⟩
      go_wp2
      go_ret
      exact ⟨ret_eq (by rw [E.out]; rfl), rfl⟩
    · have s1i : (x2 != 0) = true := by simp [s1]
      clear hd hd' hn s3
      go_enter Try.func52, Try.ntmps52
      go_wp2_with fail
      refine (HN.out _).mono ?_
      rintro e w1 ⟨rfl, rfl⟩
      go_wp2
      go_ret
      exact ⟨ret_eq (by rw [E.out]; rfl), rfl⟩
  have hgo : ∀ (P : Ending → World → Prop), (x1 = false ∨ (x1 = true ∧ x2 = 0 ∧ ((l.length : Int) != 1) = false ∧ (x2 != 0) = false)) := fun _ => by
    cases x1 with
    | false => exact .inl rfl
    | true =>
      obtain ⟨h1, h2⟩ := hd rfl
      exact .inr ⟨rfl, h1, by simp; omega, by simp [h1]⟩
  have hgo := hgo (fun _ _ => True)
  by_cases s1 : x2 < 0 ∨ 1500 < x2
  · have E := mkHid (nodeB_low (x0 := x0) (x1 := x1) (x2 := x2) (l := l) s1)
    have hx1 : x1 = false := by
      rcases hgo with h | ⟨_, h, _⟩
      · exact h
      · omega
    subst hx1
    by_cases u1 : x2 < 0
    · clear hd hgo hn s3 s1
      go_enter Try.func52, Try.ntmps52
      go_wp2_with fail
      refine (HN.out _).mono ?_
      rintro e w1 ⟨rfl, rfl⟩
      go_wp2
      go_ret
      exact ⟨ret_eq (by rw [E.out]; rfl), rfl⟩
    · have u1' : 0 ≤ x2 := by omega
      have u2 : 1500 < x2 := by omega
      clear hd hgo hn s3 s1
      go_enter Try.func52, Try.ntmps52
      go_wp2_with fail
      refine (HN.out _).mono ?_
      rintro e w1 ⟨rfl, rfl⟩
      go_wp2
      go_ret
      exact ⟨ret_eq (by rw [E.out]; rfl), rfl⟩
  have s1a : 0 ≤ x2 := by omega
  have s1b : x2 ≤ 1500 := by omega
  have HY := mkHid (fun h6 => nodeB_yes (x1 := x1) (x2 := x2) hn (show l.length ≤ 100 by omega) hd s1a s1b h6)
  have HB := mkHid (fun h6 => nodeB_keys (x0 := x0) (x1 := x1) (x2 := x2) (l := l) h6)
  clear hd hn s3 s1
  rcases hgo with rfl | ⟨rfl, rfl, t1, t2⟩ <;>
  (go_enter Try.func52, Try.ntmps52
   go_wp2_with fail
   refine (HN.out _).mono ?_
   rintro e w1 ⟨rfl, rfl⟩
   clear HN
   go_wp2_with fail
   go_loopw [3] (fun i wr => ∃ k : Nat, k ≤ l.length ∧ i = .int .i64 k ∧ Hid (keysB l = keysB (l.drop k)) ∧ wr = w.alloc (.cells #[.string x0, .bool _, .int .i64 _, .slice a l.length c] 59))
     (fun i _ => l.length - (intOf i).toNat)
   case atStart => exact ⟨0, Nat.zero_le _, rfl, mkHid (by simp), rfl⟩
   case round =>
     obtain ⟨k, hk, rfl, hF, rfl⟩ := hrel
     by_cases hlt : k < l.length
     · have hlti : (k : Int) < (l.length : Int) := by omega
       obtain ⟨t, hx⟩ : ∃ y, l[k]? = some y := ⟨_, List.getElem?_eq_getElem hlt⟩
       obtain ⟨g1, o1, rfl, d0, l1⟩ := tx_el HR.out hx
       have hst := keysB_step l k t hx
       have hti := HS.out t (List.mem_of_getElem? hx)
       by_cases h32 : t.size = 32
       · have h32i : ((t.size : Int) != 32) = false := by simp; omega
         have N1 : Hid (keysB l = keysB (l.drop (k + 1))) := mkHid (by rw [hF.out, hst, decide_eq_true h32, Bool.true_and])
         clear hF hst hx h32
         go_wp2
         exact ⟨⟨k + 1, by omega, by go_num, N1, by first | rfl | trivial⟩, by simp [intOf]; omega⟩
       · have h32i : ((t.size : Int) != 32) = true := by simp; omega
         have E := mkHid (HB.out (keysB_no (List.mem_of_getElem? hx) h32))
         clear hF hst hx h32
         go_wp2
         go_ret
         exact ⟨ret_eq (by rw [E.out]; rfl), rfl⟩
     · obtain rfl : k = l.length := by omega
       have E := mkHid (HY.out (by rw [hF.out, List.drop_of_length_le (Nat.le_refl _)]; rfl))
       clear hF
       go_wp2
       go_ret
       exact ⟨ret_eq (by rw [E.out]; rfl), rfl⟩)
end Go.Proofs.Ytmmmadehifajlaa.nod
