/-
  What strings.Compare, the program's comparison of a file with a name, slices.BinarySearchFunc with it, and impl.findFile answer and leave. Conditions: at most 1,048,576 files, which lie in memory and rise by their names.
-/
import Derived.Test.YtfckgpmphcadeaaDrvF
import Derived.Test.YtfckgpmphcadeaaDrvIR
import Derived.Lib.Strings
import Derived.Lib.Walk
namespace Go.Proofs.Ytfckgpmphcadeaa.drv
open Go.RowKit Go.Joins Go.Sort
open Go.Proofs.Ytfckgpmphcadeaa.base Go.Proofs.Ytfckgpmphcadeaa.blk Go.Proofs.Ytfckgpmphcadeaa.aid
open Go.Proofs.Ytfckgpmphcadeaa.row (Rd Own OwnV)
open Go.Proofs.Ytfckgpmphcadeaa.rwStored (cs)
set_option linter.unusedVariables false

set_option maxHeartbeats 1000000 in
set_option maxRecDepth 100000 in
theorem compareString_any (a b : ByteArray) (w : World) :
    Calls Try.prog 130 #[.string a, .string b] w fun e w' => e = .returned (.int .i64 (cmpB a b)) ∧ w' = w := by
  go_enter Try.func130, Try.ntmps130
  go_wp2
  rw [run_callFunc_extern Try.func146 (by kernel_rfl) (by kernel_rfl) (by kernel_rfl) (e := Extern.BytealgCompare.compare) (by kernel_rfl), Lib.run_compareString]
  simp only [Result.andThen]
  rw [Oper.upon_value]
  go_wp2
  go_ret
  exact ⟨rfl, rfl⟩
theorem compare_any (a b : ByteArray) (w : World) :
    Calls Try.prog 111 #[.string a, .string b] w fun e w' => e = .returned (.int .i64 (cmpB a b)) ∧ w' = w := by
  go_enter Try.func111, Try.ntmps111
  go_wp2_with (go_at_call 130; refine (compareString_any _ _ _).mono ?_; rintro e w' ⟨rfl, rfl⟩)
  go_ret
  exact ⟨rfl, rfl⟩
theorem closure_any (x0 x1 : ByteArray) (x2 : Int) (n : ByteArray) (w : World) :
    Calls Try.prog 110 #[.agg #[.string x0, .string x1, .int .i64 x2], .string n] w fun e w' => e = .returned (.int .i64 (cmpB x0 n)) ∧ Below w.heap.size w w' := by
  go_enter Try.func110, Try.ntmps110
  go_wp2_with (go_at_call 111; refine (compare_any _ _ _).mono ?_; rintro e w' ⟨rfl, rfl⟩)
  go_ret
  exact ⟨rfl, below_alloc1 _ _⟩

set_option maxHeartbeats 2000000 in
set_option maxRecDepth 100000 in
theorem search_any (a : Option Addr) (c : Nat) (l : List File) (n : ByteArray) (w : World) (hl : l.length ≤ 1048576) (hR : Rising l) (hr : Rd w a (cs l)) :
    Calls Try.prog 109 #[.slice a l.length c, .string n, .func (.func 110) #[] #[]] w fun e w' => e = .returned (.tuple #[.int .i64 (spot n l 0 : Nat), .bool (there l n)]) ∧ Below w.heap.size w w' := by
  have HC := mkHid (fun x0 x1 x2 wx => closure_any x0 x1 x2 n wx)
  have HM : Hid (∀ t i, i ≤ t → ∀ f g : File, l[i]? = some f → l[t]? = some g → blt g.1 n = true → blt f.1 n = true) := mkHid (fun t i hit f g hf hg h => by
    rcases Nat.eq_or_lt_of_le hit with rfl | hlt
    · rw [hf] at hg; cases hg; exact h
    · exact blt_trans (rising_at hR hlt hf hg) h)
  have hHr := mkHid hr
  have hls : (l.length : Int) ≤ 1048576 := by omega
  clear hr hR
  go_enter Try.func109, Try.ntmps109
  go_wp2_with fail
  go_loopw [9, 10, 11] (fun lo hi h wr => ∃ i j : Nat, lo = .int .i64 i ∧ hi = .int .i64 j ∧ i ≤ j ∧ j ≤ l.length ∧ Hid (Below w.heap.size w wr) ∧ Hid ((∀ t f, t < i → l[t]? = some f → blt f.1 n = true) ∧ (∀ t f, j ≤ t → l[t]? = some f → blt f.1 n = false)))
    (fun lo hi _ _ => (intOf hi).toNat - (intOf lo).toNat)
  case atStart => exact ⟨0, l.length, rfl, rfl, Nat.zero_le _, Nat.le_refl _, mkHid (Below.refl _ _), mkHid ⟨fun t f ht => absurd ht (Nat.not_lt_zero _), fun t f ht hf => by have := (List.getElem?_eq_some_iff.1 hf).1; omega⟩⟩
  case round =>
    obtain ⟨i, j, rfl, rfl, hij, hjl, hb, hI⟩ := hrel
    by_cases hlt : i < j
    · obtain ⟨⟨x0, x1, x2⟩, hx⟩ : ∃ y, l[(i + j) / 2]? = some y := ⟨_, List.getElem?_eq_getElem (by omega)⟩
      obtain ⟨g1, o1, rfl, c0, c1, c2, l1⟩ := rwStored.el (hHr.out.below hb.out) hx
      simp only at c0 c1 c2
      have HX := mkHid hx
      have Hc := mkHid (fun wx => HC.out x0 x1 x2 wx)
      have hij2 : (i : Int) < (j : Int) := by omega
      have hjl2 : (j : Int) ≤ (l.length : Int) := by omega
      clear hx
      by_cases hy : cmpB x0 n < 0
      · have N1 : Hid ((∀ t f, t < (i + j) / 2 + 1 → l[t]? = some f → blt f.1 n = true) ∧ (∀ t f, j ≤ t → l[t]? = some f → blt f.1 n = false)) := mkHid ⟨fun t f ht hf => HM.out ((i + j) / 2) t (by omega) f _ hf HX.out ((cmpB_neg x0 n).1 hy), hI.out.2⟩
        clear HX
        go_wp2_with fail
        refine (Hc.out _).mono ?_
        rintro e w1 ⟨rfl, hb1⟩
        have B1 := mkHid (hb.out.trans (hb1.mono hb.out.size))
        clear hb1
        go_wp2
        go_roundw
        case rel => exact ⟨(i + j) / 2 + 1, j, by go_num, rfl, by omega, hjl, B1, N1⟩
        case measure => simp [intOf]; omega
      · have N1 : Hid ((∀ t f, t < i → l[t]? = some f → blt f.1 n = true) ∧ (∀ t f, (i + j) / 2 ≤ t → l[t]? = some f → blt f.1 n = false)) := mkHid ⟨hI.out.1, fun t f ht hf => by
          cases hq : blt f.1 n with
          | false => rfl
          | true => exact absurd ((cmpB_neg x0 n).2 (HM.out t ((i + j) / 2) ht _ f HX.out hf hq)) hy⟩
        clear HX
        go_wp2_with fail
        refine (Hc.out _).mono ?_
        rintro e w1 ⟨rfl, hb1⟩
        have B1 := mkHid (hb.out.trans (hb1.mono hb.out.size))
        clear hb1
        go_wp2
        go_roundw
        case rel => exact ⟨i, (i + j) / 2, rfl, by go_num, by omega, by omega, B1, N1⟩
        case measure => simp [intOf]; omega
    · obtain rfl : j = i := by omega
      have E : Hid (spot n l 0 = j) := mkHid (by
        rw [spot_is n l 0 j hjl hI.out.1 (fun f hf => hI.out.2 j f (Nat.le_refl _) hf)]
        omega)
      by_cases hjn : j < l.length
      · obtain ⟨⟨x0, x1, x2⟩, hx⟩ : ∃ y, l[j]? = some y := ⟨_, List.getElem?_eq_getElem hjn⟩
        obtain ⟨g1, o1, rfl, c0, c1, c2, l1⟩ := rwStored.el (hHr.out.below hb.out) hx
        simp only at c0 c1 c2
        have Hc := mkHid (fun wx => HC.out x0 x1 x2 wx)
        have hjn2 : (j : Int) < (l.length : Int) := by omega
        have T : Hid (there l n = decide (x0 = n)) := mkHid (by unfold there; rw [E.out, hx]; rfl)
        clear hx
        by_cases hy : cmpB x0 n = 0
        · have hyb : (cmpB x0 n == 0) = true := by simp [hy]
          have T2 : Hid (there l n = true) := mkHid (by rw [T.out]; simp [(cmpB_zero x0 n).1 hy])
          go_wp2_with fail
          refine (Hc.out _).mono ?_
          rintro e w1 ⟨rfl, hb1⟩
          have B1 := mkHid (hb.out.trans (hb1.mono hb.out.size))
          clear hb1
          go_wp2
          go_ret2
          exact ⟨ret_eq (by rw [E.out, T2.out]; rfl), B1.out⟩
        · have hyb : (cmpB x0 n == 0) = false := by simp [hy]
          have T2 : Hid (there l n = false) := mkHid (by rw [T.out]; simp; exact fun e => hy ((cmpB_zero x0 n).2 e))
          go_wp2_with fail
          refine (Hc.out _).mono ?_
          rintro e w1 ⟨rfl, hb1⟩
          have B1 := mkHid (hb.out.trans (hb1.mono hb.out.size))
          clear hb1
          go_wp2
          go_ret2
          exact ⟨ret_eq (by rw [E.out, T2.out]; rfl), B1.out⟩
      · obtain rfl : j = l.length := by omega
        have T2 : Hid (there l n = false) := mkHid (by unfold there; rw [E.out]; simp)
        go_wp2
        go_ret2
        exact ⟨ret_eq (by rw [E.out, T2.out]; rfl), hb.out⟩

theorem findI_any (a : Option Addr) (c : Nat) (l : List File) (n : ByteArray) (w : World) (hl : l.length ≤ 1048576) (hR : Rising l) (hr : Rd w a (cs l)) :
    Calls Try.prog 69 #[.slice a l.length c, .string n] w fun e w' => e = .returned (.tuple #[.int .i64 (spot n l 0 : Nat), .bool (there l n)]) ∧ Below w.heap.size w w' := by
  have HS := mkHid (search_any a c l n w hl hR hr)
  clear hr hR
  go_enter Try.func69, Try.ntmps69
  go_wp2_with fail
  refine HS.out.mono ?_
  rintro e w1 ⟨rfl, hb1⟩
  have B1 := mkHid hb1
  clear hb1
  go_wp2
  go_ret2
  exact ⟨rfl, B1.out⟩
end Go.Proofs.Ytfckgpmphcadeaa.drv
