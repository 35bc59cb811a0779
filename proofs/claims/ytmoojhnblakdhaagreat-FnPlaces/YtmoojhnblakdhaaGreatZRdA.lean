/-
  spec.GetText answers what 'T' says. No condition but that the text has at most 1,048,576 bytes.
  What the specification's reader of places answers and leaves. Conditions: a text of at most 20,000 bytes, a place within it.
  What the specification's reader of places answers for 32 bytes, and what it reads of a place. Conditions: a text of at most 20,000 bytes, a place within it.
  What impl.readNums answers and leaves: numbers that stand one behind the other are read into the cells of one block. Conditions: a text of at most 20,000 bytes; the places that are handed in lie in another block than the cells.
  impl.readText answers what 'T' says. No condition but that the text has at most 1,048,576 bytes.
  What impl.readKey answers and leaves. Conditions: a text of at most 20,000 bytes, a place within it.
  What impl.readPlace answers and leaves. Conditions: a text of at most 20,000 bytes, a place within it.
  A row of bytes that a conversion laid or an append grew: text put behind it. No condition.
  What spec.PlacesBytes answers and leaves. Conditions: places that lie in memory, of texts of at most 1,048,576 bytes.
  What the methods WriteString, Len and String of strings.Builder answer and leave, of a builder in a block of the call's own. Conditions: at most 1,048,576 bytes.
  What impl.PlacesBytes answers and leaves. Conditions: places that lie in memory, of texts of at most 1,048,576 bytes.
  What impl.readCounted of places and impl.PlacesRead answer and leave. Condition: a text of at most 1,048,576 bytes.
-/
import Derived.Test.YtmoojhnblakdhaaGreatZTxtA
import Derived.Test.YtmoojhnblakdhaaGreatZPlsA
import Derived.Test.YtmoojhnblakdhaaGreatZNumA
import Derived.Test.YtmoojhnblakdhaaGreatZGetO
import Derived.Test.YtmoojhnblakdhaaGreatCells
import Derived.Test.YtmoojhnblakdhaaGreatZPlaA
import Derived.Test.YtmoojhnblakdhaaGreatZPlaB
import Derived.Test.YtmoojhnblakdhaaGreatStrs
import Derived.Laws.DeepStrings4
import Derived.Deep.RegionHeld3
import Derived.Lib.AppendStr
import Derived.Lib.FrozenHead
import Derived.Laws.IdiomStrings
import Derived.Lib.Builder
import Derived.Lib.BufferWrite
import Derived.Laws.Externs
namespace Go.Proofs.YtmoojhnblakdhaaGreat.num
open Go.RowKit
set_option linter.unusedVariables false

theorem spec_all (s : ByteArray) (a : Int) (w : World) (hs : s.size ≤ 1048576) (h1 : -9223372036854775808 ≤ a) (h2 : a ≤ 9223372036854775807) :
    Calls Tryz.prog 110 #[.string s, .int .i64 a] w fun e w' => e = .returned (out (G s a)) ∧ Below w.heap.size w w' := by
  by_cases hb : 20000 < s.size
  · exact spec_big s a w hb hs
  by_cases hn : a < 0
  · exact spec_neg s a w (by omega) hn
  · obtain ⟨k, rfl⟩ := Int.eq_ofNat_of_zero_le (show 0 ≤ a by omega)
    exact spec_any s k w (by omega) h2
end Go.Proofs.YtmoojhnblakdhaaGreat.num
namespace Go.Proofs.YtmoojhnblakdhaaGreat.plc
open Go.RowKit Go.Joins
open Go.Proofs.YtmoojhnblakdhaaGreat.base Go.Proofs.YtmoojhnblakdhaaGreat.blk Go.Proofs.YtmoojhnblakdhaaGreat.aid
open Go.Proofs.YtmoojhnblakdhaaGreat.num (G T out tout)
set_option linter.unusedVariables false
set_option linter.unusedSimpArgs false

theorem T_code {s : ByteArray} {a c : Int} (h : T s a = .error c) : c ≠ 0 := by
  unfold T at h
  cases hG : G s a with
  | error d => rw [hG] at h; cases h; exact nbk.G_code hG
  | ok r =>
    rw [hG] at h
    obtain ⟨n, p⟩ := r
    simp only at h
    split at h
    · cases h; decide
    · split at h
      · cases h; decide
      · cases h
theorem numS_yes (s : ByteArray) (a : Nat) (n p : Int) (hG : G s (a : Int) = .ok (n, p)) : ∃ P : Nat, p = (P : Int) ∧ P ≤ s.size ∧ numS s (a, false) = (n, (P, false)) := by
  obtain ⟨P, rfl, _, h2, _⟩ := nbk.G_nat hG
  refine ⟨P, rfl, h2, ?_⟩
  unfold numS
  simp only [Bool.false_eq_true, if_false, hG]
  simp
theorem txtS_yes (s : ByteArray) (a : Nat) (t : ByteArray) (p : Int) (hT : T s (a : Int) = .ok (t, p)) : ∃ P : Nat, p = (P : Int) ∧ P ≤ s.size ∧ txtS s (a, false) = (t, (P, false)) := by
  have e : txtS s (a, false) = (t, (p.toNat, false)) := by
    unfold txtS
    simp only [Bool.false_eq_true, if_false, hT]
  obtain ⟨_, h2, _, h4, _⟩ := txtS_ok e
  have h2' : T s (a : Int) = .ok (t, ((p.toNat : Nat) : Int)) := h2
  rw [hT] at h2'
  simp only [Except.ok.injEq, Prod.mk.injEq, true_and] at h2'
  exact ⟨p.toNat, h2', h4, e⟩
end Go.Proofs.YtmoojhnblakdhaaGreat.plc
namespace Go.Proofs.YtmoojhnblakdhaaGreat.plc
open Go.RowKit Go.Joins
open Go.Proofs.YtmoojhnblakdhaaGreat.base Go.Proofs.YtmoojhnblakdhaaGreat.blk Go.Proofs.YtmoojhnblakdhaaGreat.aid
set_option linter.unusedVariables false
set_option linter.unusedSimpArgs false
end Go.Proofs.YtmoojhnblakdhaaGreat.plc
namespace Go.Proofs.YtmoojhnblakdhaaGreat.rdn
open Go.RowKit Go.Joins
open Go.Proofs.YtmoojhnblakdhaaGreat.base Go.Proofs.YtmoojhnblakdhaaGreat.blk Go.Proofs.YtmoojhnblakdhaaGreat.aid
open Go.Proofs.YtmoojhnblakdhaaGreat.row (Rd)
open Go.Proofs.YtmoojhnblakdhaaGreat.nbk (rdA rdA_ok rdA_err G_nat)
set_option linter.unusedVariables false

/-- these numbers lie in the cells from o on -/
def setL (w : World) (g o : Nat) (l : List Int) : World := l.foldl (fun (q : World × Nat) z => (q.1.setCell ⟨g, q.2, none⟩ (.int .i64 z), q.2 + 1)) (w, o) |>.1
theorem setL_nil (w : World) (g o : Nat) : setL w g o [] = w := rfl
theorem fold_snd : ∀ (l : List Int) (w : World) (g o : Nat), (l.foldl (fun (q : World × Nat) z => (q.1.setCell ⟨g, q.2, none⟩ (.int .i64 z), q.2 + 1)) (w, o)).2 = o + l.length
  | [], w, g, o => rfl
  | z :: l, w, g, o => by
    rw [List.foldl_cons, fold_snd l]
    simp only [List.length_cons]
    omega
theorem setL_snoc (w : World) (g o : Nat) (l : List Int) (z : Int) : setL w g o (l ++ [z]) = (setL w g o l).setCell ⟨g, o + l.length, none⟩ (.int .i64 z) := by
  unfold setL
  rw [List.foldl_append]
  simp only [List.foldl_cons, List.foldl_nil]
  rw [fold_snd]
theorem snoc_cases (l : List Int) : l = [] ∨ ∃ r z, l = r ++ [z] := by
  rcases List.eq_nil_or_concat l with h | ⟨r, z, h⟩
  · exact .inl h
  · exact .inr ⟨r, z, by simpa using h⟩
theorem setL_block (w : World) (g o : Nat) (l : List Int) (j : Nat) (hj : j ≠ g) : (setL w g o l).heap[j]? = w.heap[j]? := by
  induction h : l.length generalizing l with
  | zero =>
    have := List.eq_nil_of_length_eq_zero h
    subst this
    rfl
  | succ n ih =>
    rcases snoc_cases l with rfl | ⟨r, z, rfl⟩
    · cases h
    · rw [setL_snoc]
      exact (Below.heap_setCell _ ⟨g, o + r.length, none⟩ _ j hj).trans (ih r (by simpa using h))
theorem setL_cells (w : World) (g o : Nat) (l : List Int) (cs : Array Value) (T : TypeId) (hb : w.heap[g]? = some (.cells cs T)) : ∃ cs', (setL w g o l).heap[g]? = some (.cells cs' T) ∧ cs'.size = cs.size := by
  induction h : l.length generalizing l with
  | zero =>
    have := List.eq_nil_of_length_eq_zero h
    subst this
    exact ⟨cs, hb, rfl⟩
  | succ n ih =>
    rcases snoc_cases l with rfl | ⟨r, z, rfl⟩
    · cases h
    · obtain ⟨cs', h1, h2⟩ := ih r (by simpa using h)
      rw [setL_snoc]
      exact ⟨_, heap_setCell_same _ g (o + r.length) _ _ _ h1, by simpa using h2⟩
/-- the places of n cells from o on -/
def ptrL (g o n : Nat) : List Value := (List.range n).map (fun i => .pointer (some ⟨g, o + i, none⟩))
theorem ptrL_at (g o n i : Nat) (h : i < n) : (ptrL g o n)[i]? = some (.pointer (some ⟨g, o + i, none⟩)) := by simp [ptrL, h]
/-- what readNums answers: n numbers are read from p on -/
def NsPost (s : ByteArray) (n p : Nat) (w : World) (g o : Nat) (e : Ending) (w' : World) : Prop :=
  (∃ (q : Nat) (l : List Int), e = .returned (.tuple #[.int .i64 q, .nilIface]) ∧ rdA s n p [] = some (l, q) ∧ l.length = n ∧ q ≤ s.size ∧ w' = setL w g o l) ∨
  (∃ (T : TypeId) (v : Value) (l : List Int), e = .returned (.tuple #[.int .i64 0, .iface T v]) ∧ rdA s n p [] = none ∧ l.length ≤ n ∧ w' = setL w g o l)
set_option maxRecDepth 100000 in
set_option maxHeartbeats 2000000 in
theorem nums_any (s : ByteArray) (p hb n cap g o : Nat) (cs : Array Value) (T : TypeId) (w : World) (hs : s.size ≤ 20000) (hp : p ≤ s.size) (hn : n ≤ 100) (hr : Rd w (some ⟨hb, 0, none⟩) (ptrL g o n)) (hne : hb ≠ g) (hbl : w.heap[g]? = some (.cells cs T)) (hcs : o + n ≤ cs.size) :
    Calls Tryz.prog 61 #[.string s, .int .i64 (p : Int), .slice (some ⟨hb, 0, none⟩) n cap] w (NsPost s n p w g o) := by
  have HRd := mkHid (fun (p : Nat) wx (hp : (p : Int) ≤ 9223372036854775807) => num.read_any s p wx hs hp)
  have hs' : (s.size : Int) ≤ 20000 := by omega
  have hn' : (n : Int) ≤ 100 := by omega
  have HR := mkHid hr
  have HB := mkHid hbl
  clear hr hbl
  go_enter Tryz.func61, Tryz.ntmps61
  go_wp2
  go_loopw [1, 13] (fun a i wr => ∃ (k p' : Nat) (l : List Int), k ≤ n ∧ i = .int .i64 k ∧ a = .int .i64 p' ∧ p' ≤ s.size ∧ Hid (l.length = k ∧ rdA s n p [] = rdA s (n - k) p' l ∧ wr = setL w g o l))
    (fun _ i _ => n - (intOf i).toNat)
  case atStart => exact ⟨0, p, [], by omega, rfl, rfl, hp, mkHid ⟨rfl, rfl, rfl⟩⟩
  case round =>
    obtain ⟨k, p', l, hk, rfl, rfl, hp', hl⟩ := hrel
    have hpi : (p' : Int) ≤ 20000 := by omega
    by_cases hlt : k < n
    · have hki : (k : Int) < (n : Int) := by omega
      obtain ⟨b, off, e0, c0⟩ := HR.out k _ (ptrL_at g o n k hlt)
      simp at e0
      obtain ⟨rfl, rfl⟩ := e0
      have g0 : wr.cell? ⟨hb, k, none⟩ = some (.pointer (some ⟨g, o + k, none⟩)) := by
        rw [hl.out.2.2, World.cell?_of_block (w := w) (a := ⟨hb, k, none⟩) (setL_block w g o l hb hne)]
        simpa using c0
      obtain ⟨cs', hcb, hcz⟩ := setL_cells w g o l cs T HB.out
      rw [← hl.out.2.2] at hcb
      have e1 := unfrozen hcb
      have g1 : ∃ v, wr.cell? ⟨g, o + k, none⟩ = some v := by
        have h1 : o + k < cs'.size := by omega
        rw [cell_of_block hcb]
        exact ⟨_, Array.getElem?_eq_getElem h1⟩
      obtain ⟨g1v, g1⟩ := g1
      cases hq : num.G s p' with
      | error c =>
        have hN := mkHid (show rdA s n p [] = none by rw [hl.out.2.1, show n - k = (n - k - 1) + 1 by omega, rdA_err hq])
        have HW := mkHid (show wr.setCell ⟨g, o + k, none⟩ (.int .i64 0) = setL w g o (l ++ [0]) by rw [setL_snoc, hl.out.1, ← hl.out.2.2])
        have HL := mkHid (show (l ++ [(0 : Int)]).length ≤ n by simp; have := hl.out.1; omega)
        have HRd1 := HRd.out p' wr (by omega)
        rw [hq] at HRd1
        unfold num.tup at HRd1
        have HRd1 := mkHid HRd1
        clear HRd hl hq hcb c0 HR HB
        go_wp2_with fail
        refine HRd1.out.mono ?_
        rintro e w2 ⟨rfl, rfl⟩
        go_wp2
        refine bodyPost_ret (v := .tuple #[.int .i64 0, .iface 120 (.agg #[.int .i64 c])]) (by simp [results, Tryz.results61, go_sem]) rfl ?_
        exact .inr ⟨_, _, _, rfl, hN.out, HL.out, HW.out⟩
      | ok oo =>
        obtain ⟨z, q⟩ := oo
        obtain ⟨Q, rfl, hQ1, hQ2, _⟩ := G_nat hq
        have HRd1 := HRd.out p' wr (by omega)
        rw [hq] at HRd1
        unfold num.tup at HRd1
        have HRd1 := mkHid HRd1
        have N1 : Hid ((l ++ [z]).length = k + 1 ∧ rdA s n p [] = rdA s (n - (k + 1)) Q (l ++ [z]) ∧ wr.setCell ⟨g, o + k, none⟩ (.int .i64 z) = setL w g o (l ++ [z])) := mkHid ⟨by have := hl.out.1; simp; omega, by rw [hl.out.2.1, show n - k = (n - (k + 1)) + 1 by omega, rdA_ok hq], by rw [setL_snoc, hl.out.1, ← hl.out.2.2]⟩
        clear HRd hl hq hcb c0
        go_wp2_with fail
        refine HRd1.out.mono ?_
        rintro e w2 ⟨rfl, rfl⟩
        go_wp2
        go_roundw
        case rel => exact ⟨k + 1, Q, l ++ [z], by omega, by go_num, rfl, hQ2, N1⟩
        case measure => simp [intOf]; omega
    · obtain rfl : k = n := by omega
      have hN := mkHid (show rdA s k p [] = some (l, p') by rw [hl.out.2.1, Nat.sub_self]; rfl)
      have HL := mkHid hl.out.1
      have HW := mkHid hl.out.2.2
      clear hl HRd HR HB
      go_wp2
      refine bodyPost_ret (v := .tuple #[.int .i64 (p' : Int), .nilIface]) (by simp [results, Tryz.results61, go_sem]) rfl ?_
      exact .inl ⟨_, _, rfl, hN.out, HL.out, hp', HW.out⟩
end Go.Proofs.YtmoojhnblakdhaaGreat.rdn
namespace Go.Proofs.YtmoojhnblakdhaaGreat.num
open Go.RowKit
set_option linter.unusedVariables false

def ttup : Except Int (ByteArray × Int) → Value
  | .error c => .tuple #[.string ⟨#[]⟩, .int .i64 0, .iface 120 (.agg #[.int .i64 c])]
  | .ok (t, p) => .tuple #[.string t, .int .i64 p, .nilIface]

theorem part_size (s : ByteArray) (i j : Nat) : (s.extract i j).size ≤ s.size := by
  rw [ByteArray.size_extract]
  omega

set_option maxRecDepth 100000 in
set_option maxHeartbeats 1000000 in
theorem rtext_any (s : ByteArray) (a : Int) (w : World) (hs : s.size ≤ 1048576) (h1 : -9223372036854775808 ≤ a) (h2 : a ≤ 9223372036854775807) :
    Calls Tryz.prog 60 #[.string s, .int .i64 a] w fun e w' => e = .returned (ttup (T s a)) ∧ Below w.heap.size w w' := by
  have HR := mkHid (fun wx => read_all s a wx hs h1 h2)
  clear h1 h2
  cases hG : G s a with
  | error c =>
    rw [T_err hG]
    rw [hG] at HR
    clear hG
    go_enter Tryz.func60, Tryz.ntmps60
    go_wp2_with fail
    refine (HR.out _).mono ?_
    rintro e w' ⟨rfl, rfl⟩
    unfold tup
    go_wp2
    go_ret3
    exact ⟨rfl, Below.refl _ _⟩
  | ok r =>
    obtain ⟨n, p⟩ := r
    have hp := G_pos hG
    obtain ⟨hs2, ha0, hp1, hp2⟩ := hp
    rw [hG] at HR
    by_cases hn : n < 0 ∨ 20000 < n
    · rw [T_three hG hn]
      clear hG
      rcases hn with hn | hn
      all_goals
        go_enter Tryz.func60, Tryz.ntmps60
        go_wp2_with fail
        refine (HR.out _).mono ?_
        rintro e w' ⟨rfl, rfl⟩
        unfold tup
        go_wp2
        go_ret3
        exact ⟨rfl, Below.refl _ _⟩
    · have hn0 : 0 ≤ n := by omega
      have hn1 : n ≤ 20000 := by omega
      by_cases hq : (s.size : Int) - n < p
      · rw [T_four hG hn hq]
        clear hG hn
        have hq1 : (s.size : Int) - p < n := by omega
        go_enter Tryz.func60, Tryz.ntmps60
        go_wp2_with fail
        refine (HR.out _).mono ?_
        rintro e w' ⟨rfl, rfl⟩
        unfold tup
        go_wp2
        go_ret3
        exact ⟨rfl, Below.refl _ _⟩
      · rw [T_ok hG hn hq]
        clear hG hn
        have hq1 : n ≤ (s.size : Int) - p := by omega
        have hq2 : p + n ≤ (s.size : Int) := by omega
        have hp0 : 0 ≤ p := by omega
        have hsl : ∀ wx, (Instr.slice 9 (.string s) (some (.int .i64 p)) (some (.int .i64 (p + n))) none).run Tryz.prog wx = .ok (.string (s.extract p.toNat (p + n).toNat)) wx := fun wx => by
          rw [run_slice_string_if wx 9 s .i64 .i64 p (p + n) Tryz.underlying9, if_pos ⟨by omega, by omega⟩, if_pos ⟨by omega, by omega⟩]
        have hx := part_size s p.toNat (p + n).toNat
        have HX := mkHid (show (s.extract p.toNat (p + n).toNat).size ≤ 20000 by omega)
        clear hx
        go_enter Tryz.func60, Tryz.ntmps60
        go_wp2_with fail
        refine (HR.out _).mono ?_
        rintro e w' ⟨rfl, rfl⟩
        unfold tup
        go_wp2_with fail
        refine (clone.clone_any _ _ (Nat.le_trans HX.out (by omega))).mono ?_
        rintro e w1 ⟨rfl, hb1⟩
        go_wp2
        go_ret3
        exact ⟨rfl, hb1⟩
end Go.Proofs.YtmoojhnblakdhaaGreat.num
namespace Go.Proofs.YtmoojhnblakdhaaGreat.rdk
open Go.RowKit Go.Joins
open Go.Proofs.YtmoojhnblakdhaaGreat.base Go.Proofs.YtmoojhnblakdhaaGreat.blk Go.Proofs.YtmoojhnblakdhaaGreat.aid
set_option linter.unusedVariables false
set_option linter.unusedSimpArgs false

def keyErr : Value := .tuple #[.string ⟨#[]⟩, .int .i64 0, .iface 120 (.agg #[.int .i64 4])]
set_option maxRecDepth 100000 in
theorem key_no (s : ByteArray) (a : Nat) (w : World) (hs : s.size ≤ 20000) (ha : a ≤ s.size) (h : s.size < a + 32) :
    Calls Tryz.prog 59 #[.string s, .int .i64 (a : Int)] w fun e w' => e = .returned (.tuple #[.string ⟨#[]⟩, .int .i64 0, .iface 120 (.agg #[.int .i64 4])]) ∧ w' = w := by
  have hsi : (s.size : Int) ≤ 20000 := by omega
  have hai : (a : Int) ≤ 20000 := by omega
  have hli : (s.size : Int) - (a : Int) < 32 := by omega
  go_enter Tryz.func59, Tryz.ntmps59
  go_wp2
  exact bodyPost_ret (by simp [results, Tryz.results59, go_sem]) rfl ⟨rfl, rfl⟩
set_option maxRecDepth 100000 in
theorem key_yes (s : ByteArray) (a : Nat) (w : World) (hs : s.size ≤ 20000) (h : a + 32 ≤ s.size) :
    Calls Tryz.prog 59 #[.string s, .int .i64 (a : Int)] w fun e w' => e = .returned (.tuple #[.string (s.extract a (a + 32)), .int .i64 ((a : Int) + 32), .nilIface]) ∧ Below w.heap.size w w' := by
  have hsi : (s.size : Int) ≤ 20000 := by omega
  have hai : (a : Int) ≤ 20000 := by omega
  have hli : 32 ≤ (s.size : Int) - (a : Int) := by omega
  have hsl : ∀ wx, (Instr.slice 9 (.string s) (some (.int .i64 (a : Int))) (some (.int .i64 ((a : Int) + 32))) none).run Tryz.prog wx = .ok (.string (s.extract a (a + 32))) wx := fun wx => by
    rw [run_slice_string_if wx 9 s .i64 .i64 (a : Int) ((a : Int) + 32) Tryz.underlying9, if_pos ⟨by omega, by omega⟩, if_pos ⟨by omega, by omega⟩]
    have e1 : (a : Int).toNat = a := by omega
    have e2 : ((a : Int) + 32).toNat = a + 32 := by omega
    rw [e1, e2]
  have HC := mkHid (clone.clone_any (s.extract a (a + 32)) w (by rw [ByteArray.size_extract]; omega))
  generalize s.extract a (a + 32) = t at *
  go_enter Tryz.func59, Tryz.ntmps59
  go_wp2_with fail
  refine HC.out.mono ?_
  rintro e w1 ⟨rfl, hb⟩
  have B1 := mkHid hb
  clear hb HC hsl
  go_wp2
  exact bodyPost_ret (by simp [results, Tryz.results59, go_sem]) rfl ⟨rfl, B1.out⟩
end Go.Proofs.YtmoojhnblakdhaaGreat.rdk
namespace Go.Proofs.YtmoojhnblakdhaaGreat.plc
open Go.RowKit Go.Joins
open Go.Proofs.YtmoojhnblakdhaaGreat.base Go.Proofs.YtmoojhnblakdhaaGreat.blk Go.Proofs.YtmoojhnblakdhaaGreat.aid
open Go.Proofs.YtmoojhnblakdhaaGreat.row (Rd)
open Go.Proofs.YtmoojhnblakdhaaGreat.rwPlace (cs)
open Go.Proofs.YtmoojhnblakdhaaGreat.num (G T ttup)
open Go.Proofs.YtmoojhnblakdhaaGreat.rdn (setL ptrL ptrL_at nums_any)
open Go.Proofs.YtmoojhnblakdhaaGreat.nbk (rdA rdA_ok rdA_err)
set_option linter.unusedVariables false
set_option linter.unusedSimpArgs false

theorem below_setL {B : Nat} {w : World} (g : Nat) (hg : B ≤ g) : ∀ (l : List Int) (W : World) (o : Nat), Below B w W → Below B w (setL W g o l)
  | [], W, o, h => h
  | z :: l, W, o, h => by
    have := below_setL g hg l (W.setCell ⟨g, o, none⟩ (.int .i64 z)) (o + 1) (h.setCell (p := ⟨g, o, none⟩) hg _)
    exact this
theorem below5r {w w1 : World} {g : Nat} (hb : Below w.heap.size w w1) (hg : w.heap.size ≤ g) (x0 x1 x2 x3 x4 : Value) : Below w.heap.size w (((((w1.setCell ⟨g, 0, none⟩ x0).setCell ⟨g, 1, none⟩ x1).setCell ⟨g, 2, none⟩ x2).setCell ⟨g, 3, none⟩ x3).setCell ⟨g, 4, none⟩ x4) :=
  ((((hb.setCell (p := ⟨g, 0, none⟩) hg x0).setCell (p := ⟨g, 1, none⟩) hg x1).setCell (p := ⟨g, 2, none⟩) hg x2).setCell (p := ⟨g, 3, none⟩) hg x3).setCell (p := ⟨g, 4, none⟩) hg x4
theorem numS_err {s : ByteArray} {a : Nat} {c : Int} (h : G s (a : Int) = .error c) : numS s (a, false) = (0, (a, true)) := by unfold numS; simp only [Bool.false_eq_true, if_false, h]
/-- three numbers, one behind the other -/
theorem three_no {s : ByteArray} {p : Nat} (h : rdA s 3 p [] = none) : (numS s (numS s (numS s (p, false)).2).2).2.2 = true := by
  cases h1 : G s (p : Int) with
  | error c => rw [numS_err h1]; simp only; rw [numS_bad]; simp only; rw [numS_bad]
  | ok r =>
    obtain ⟨n1, p1⟩ := r
    obtain ⟨P1, rfl, _, e1⟩ := numS_yes s p n1 p1 h1
    rw [rdA_ok h1] at h
    rw [e1]
    simp only
    cases h2 : G s (P1 : Int) with
    | error c => rw [numS_err h2]; simp only; rw [numS_bad]
    | ok r =>
      obtain ⟨n2, p2⟩ := r
      obtain ⟨P2, rfl, _, e2⟩ := numS_yes s P1 n2 p2 h2
      rw [rdA_ok h2] at h
      rw [e2]
      simp only
      cases h3 : G s (P2 : Int) with
      | error c => rw [numS_err h3]
      | ok r =>
        obtain ⟨n3, p3⟩ := r
        obtain ⟨P3, rfl, _, e3⟩ := numS_yes s P2 n3 p3 h3
        rw [rdA_ok h3] at h
        simp [rdA] at h
theorem three_yes {s : ByteArray} {p q : Nat} {l : List Int} (h : rdA s 3 p [] = some (l, q)) : ∃ n1 n2 n3, l = [n1, n2, n3] ∧ (numS s (p, false)).1 = n1 ∧ (numS s (numS s (p, false)).2).1 = n2 ∧ numS s (numS s (numS s (p, false)).2).2 = (n3, (q, false)) := by
  cases h1 : G s (p : Int) with
  | error c => rw [rdA_err h1] at h; cases h
  | ok r =>
    obtain ⟨n1, p1⟩ := r
    obtain ⟨P1, rfl, _, e1⟩ := numS_yes s p n1 p1 h1
    rw [rdA_ok h1] at h
    rw [e1]
    simp only
    cases h2 : G s (P1 : Int) with
    | error c => rw [rdA_err h2] at h; cases h
    | ok r =>
      obtain ⟨n2, p2⟩ := r
      obtain ⟨P2, rfl, _, e2⟩ := numS_yes s P1 n2 p2 h2
      rw [rdA_ok h2] at h
      rw [e2]
      simp only
      cases h3 : G s (P2 : Int) with
      | error c => rw [rdA_err h3] at h; cases h
      | ok r =>
        obtain ⟨n3, p3⟩ := r
        obtain ⟨P3, rfl, _, e3⟩ := numS_yes s P2 n3 p3 h3
        rw [rdA_ok h3] at h
        simp [rdA] at h
        obtain ⟨rfl, rfl⟩ := h
        exact ⟨n1, n2, n3, rfl, rfl, rfl, e3⟩
theorem place_short {s : ByteArray} {a : Nat} (h : s.size < a + 32) : (placeS s (a, false)).2.2 = true := by
  have e : bytS s (a, false) = (⟨#[]⟩, (a, true)) := by unfold bytS; rw [if_pos (.inr h)]
  unfold placeS
  rw [e]
  simp only
  rw [txtS_bad]
  simp only
  rw [numS_bad]
  simp only
  rw [numS_bad]
  simp only
  rw [numS_bad]
theorem bytS_yes {s : ByteArray} {a : Nat} (h : ¬ s.size < a + 32) : bytS s (a, false) = (s.extract a (a + 32), (a + 32, false)) := by unfold bytS; rw [if_neg (by simp; omega)]
theorem place_text {s : ByteArray} {a : Nat} {c : Int} (h : ¬ s.size < a + 32) (hT : T s ((a + 32 : Nat) : Int) = .error c) : (placeS s (a, false)).2.2 = true := by
  have e : txtS s (a + 32, false) = (⟨#[]⟩, (a + 32, true)) := by unfold txtS; simp only [Bool.false_eq_true, if_false, hT]
  unfold placeS
  rw [bytS_yes h]
  simp only
  rw [e]
  simp only
  rw [numS_bad]
  simp only
  rw [numS_bad]
  simp only
  rw [numS_bad]
theorem place_nums {s t : ByteArray} {a P : Nat} (h : ¬ s.size < a + 32) (hT : txtS s (a + 32, false) = (t, (P, false))) (hn : rdA s 3 P [] = none) : (placeS s (a, false)).2.2 = true := by
  unfold placeS
  rw [bytS_yes h]
  simp only
  rw [hT]
  exact three_no hn
theorem place_yes {s t : ByteArray} {a P q : Nat} {n1 n2 n3 : Int} (h : ¬ s.size < a + 32) (hT : txtS s (a + 32, false) = (t, (P, false))) (hn : rdA s 3 P [] = some ([n1, n2, n3], q)) : placeS s (a, false) = ((s.extract a (a + 32), t, n1, n2, n3), (q, false)) := by
  obtain ⟨m1, m2, m3, e0, e1, e2, e3⟩ := three_yes hn
  simp at e0
  obtain ⟨rfl, rfl, rfl⟩ := e0
  unfold placeS
  rw [bytS_yes h]
  simp only
  rw [hT]
  simp only
  rw [e3, e1, e2]
/-- what readPlace answers and leaves -/
def PlPost (s : ByteArray) (a : Nat) (w : World) (e : Ending) (w' : World) : Prop :=
  ((∃ (x0 x1 : ByteArray) (x2 x3 x4 : Int) (q : Nat), placeS s (a, false) = ((x0, x1, x2, x3, x4), (q, false)) ∧ e = .returned (.tuple #[.agg #[.string x0, .string x1, .int .i64 x2, .int .i64 x3, .int .i64 x4], .int .i64 (q : Int), .nilIface])) ∨
   ((placeS s (a, false)).2.2 = true ∧ ∃ T v, e = .returned (.tuple #[.agg #[.string ⟨#[]⟩, .string ⟨#[]⟩, .int .i64 0, .int .i64 0, .int .i64 0], .int .i64 0, .iface T v]))) ∧ Below w.heap.size w w'
theorem pl_no {s : ByteArray} {a : Nat} {w w' : World} (T : TypeId) (v : Value) (h : (placeS s (a, false)).2.2 = true) (hb : Below w.heap.size w w') : PlPost s a w (.returned (.tuple #[.agg #[.string ⟨#[]⟩, .string ⟨#[]⟩, .int .i64 0, .int .i64 0, .int .i64 0], .int .i64 0, .iface T v])) w' := ⟨.inr ⟨h, T, v, rfl⟩, hb⟩
theorem ptr_rd {w : World} {hb g : Nat} (h : w.heap[hb]? = some (.cells #[.pointer (some ⟨g, 2, none⟩), .pointer (some ⟨g, 3, none⟩), .pointer (some ⟨g, 4, none⟩)] 101)) : Rd w (some ⟨hb, 0, none⟩) (ptrL g 2 3) := by
  intro i u hi
  refine ⟨hb, 0, rfl, ?_⟩
  have h1 := cel3 h
  have hlt : i < 3 := by have := (List.getElem?_eq_some_iff.1 hi).1; simpa [ptrL] using this
  rw [ptrL_at _ _ _ _ hlt] at hi
  cases hi
  rcases (show i = 0 ∨ i = 1 ∨ i = 2 by omega) with rfl | rfl | rfl
  · exact h1.1
  · exact h1.2.1
  · exact h1.2.2
theorem five_z {w : World} : Below w.heap.size w ((w.alloc (.cells #[.string ⟨#[]⟩, .string ⟨#[]⟩, .int .i64 0, .int .i64 0, .int .i64 0] 33)).alloc (.cells #[.string ⟨#[]⟩, .string ⟨#[]⟩, .int .i64 0, .int .i64 0, .int .i64 0] 33)) := (below_alloc1 w _).alloc (by simp) _
set_option maxRecDepth 100000 in
set_option maxHeartbeats 4000000 in
theorem readPlace_any (s : ByteArray) (a : Nat) (w : World) (hs : s.size ≤ 20000) (ha : a ≤ s.size) :
    Calls Tryz.prog 34 #[.string s, .int .i64 (a : Int)] w (PlPost s a w) := by
  have hsi : (s.size : Int) ≤ 20000 := by omega
  have hai : (a : Int) ≤ 20000 := by omega
  have B0 : Hid (Below w.heap.size w ((w.alloc (.cells #[.string ⟨#[]⟩, .string ⟨#[]⟩, .int .i64 0, .int .i64 0, .int .i64 0] 33)).alloc (.cells #[.string ⟨#[]⟩, .string ⟨#[]⟩, .int .i64 0, .int .i64 0, .int .i64 0] 33))) := mkHid five_z
  have r0 := mkHid (blk_old (blk_new w (.cells #[.string ⟨#[]⟩, .string ⟨#[]⟩, .int .i64 0, .int .i64 0, .int .i64 0] 33) w.heap.size rfl) (.cells #[.string ⟨#[]⟩, .string ⟨#[]⟩, .int .i64 0, .int .i64 0, .int .i64 0] 33))
  have p0 := mkHid (blk_new (w.alloc (.cells #[.string ⟨#[]⟩, .string ⟨#[]⟩, .int .i64 0, .int .i64 0, .int .i64 0] 33)) (.cells #[.string ⟨#[]⟩, .string ⟨#[]⟩, .int .i64 0, .int .i64 0, .int .i64 0] 33) (w.heap.size + 1) (by simp))
  have sz0 : ((w.alloc (.cells #[.string ⟨#[]⟩, .string ⟨#[]⟩, .int .i64 0, .int .i64 0, .int .i64 0] 33)).alloc (.cells #[.string ⟨#[]⟩, .string ⟨#[]⟩, .int .i64 0, .int .i64 0, .int .i64 0] 33)).heap.size = w.heap.size + 2 := by simp
  by_cases hlt : s.size < a + 32
  · have HK := mkHid (rdk.key_no s a ((w.alloc (.cells #[.string ⟨#[]⟩, .string ⟨#[]⟩, .int .i64 0, .int .i64 0, .int .i64 0] 33)).alloc (.cells #[.string ⟨#[]⟩, .string ⟨#[]⟩, .int .i64 0, .int .i64 0, .int .i64 0] 33)) hs ha hlt)
    have HE := mkHid (place_short hlt)
    obtain ⟨y0, y1, y2, y3, y4⟩ := cel5 p0.out
    have uy := unfrozen p0.out
    obtain ⟨z0, z1, z2, z3, z4⟩ := cel5 r0.out
    have uf := unfrozen r0.out
    have F := mkHid (pl_no (w := w) 120 (.agg #[.int .i64 4]) HE.out B0.out)
    clear HE B0 r0 p0 sz0
    go_enter Tryz.func34, Tryz.ntmps34
    go_wp2_with fail
    refine HK.out.mono ?_
    rintro e w1 ⟨rfl, rfl⟩
    clear HK
    go_wp2
    refine bodyPost_ret (v := .tuple #[.agg #[.string ⟨#[]⟩, .string ⟨#[]⟩, .int .i64 0, .int .i64 0, .int .i64 0], .int .i64 0, .iface 120 (.agg #[.int .i64 4])]) ?_ rfl ?_
    rotate_left
    · exact F.out
    · simp [results, Tryz.results34, go_sem, z0, z1, z2, z3, z4]
  have HK := mkHid (rdk.key_yes s a ((w.alloc (.cells #[.string ⟨#[]⟩, .string ⟨#[]⟩, .int .i64 0, .int .i64 0, .int .i64 0] 33)).alloc (.cells #[.string ⟨#[]⟩, .string ⟨#[]⟩, .int .i64 0, .int .i64 0, .int .i64 0] 33)) hs (by omega))
  have HT := mkHid (fun wx => num.rtext_any s ((a + 32 : Nat) : Int) wx (by omega) (by omega) (by omega))
  have e32 : ((a + 32 : Nat) : Int) = (a : Int) + 32 := by omega
  cases hT : T s ((a + 32 : Nat) : Int) with
  | error c =>
    rw [hT] at HT
    rw [e32] at HT
    have HE := mkHid (place_text hlt hT)
    clear hT e32
    go_enter Tryz.func34, Tryz.ntmps34
    go_wp2_with fail
    refine HK.out.mono ?_
    rintro e w1 ⟨rfl, hb⟩
    have B1 := mkHid ((below_trans B0.out hb).setCell (p := ⟨w.heap.size + 1, 0, none⟩) (by simp) (.string (s.extract a (a + 32))))
    have r1 := mkHid (blk_set (blk_below r0.out hb) ⟨w.heap.size + 1, 0, none⟩ (.string (s.extract a (a + 32))) (by simp))
    have p1 := blk_below p0.out hb
    have p2 : Hid ((w1.setCell ⟨w.heap.size + 1, 0, none⟩ (.string (s.extract a (a + 32)))).heap[w.heap.size + 1]? = some (.cells #[.string (s.extract a (a + 32)), .string ⟨#[]⟩, .int .i64 0, .int .i64 0, .int .i64 0] 33)) := mkHid (by have h := heap_setCell_same w1 (w.heap.size + 1) 0 _ _ (.string (s.extract a (a + 32))) p1; simpa using h)
    obtain ⟨y0, y1, y2, y3, y4⟩ := cel5 p1
    have uy := unfrozen p1
    clear hb p1 p0 r0 B0 HK sz0
    go_wp2_with fail
    clear y0 y1 y2 y3 y4 uy
    generalize w1.setCell ⟨w.heap.size + 1, 0, none⟩ (.string (s.extract a (a + 32))) = W1 at *
    refine (HT.out _).mono ?_
    rintro e w2 ⟨rfl, hb⟩
    have B2 := mkHid (below_trans B1.out hb)
    have r2 := mkHid (blk_below r1.out hb)
    have p3 := blk_below p2.out hb
    obtain ⟨y0, y1, y2, y3, y4⟩ := cel5 p3
    have uy := unfrozen p3
    have r3 := blk_set r2.out ⟨w.heap.size + 1, 1, none⟩ (.string ⟨#[]⟩) (by simp)
    obtain ⟨z0, z1, z2, z3, z4⟩ := cel5 r3
    have uf := unfrozen r3
    have F := mkHid (pl_no (w := w) 120 (.agg #[.int .i64 c]) HE.out (below5r (B2.out.setCell (p := ⟨w.heap.size + 1, 1, none⟩) (by simp) (.string ⟨#[]⟩)) (Nat.le_refl _) (.string ⟨#[]⟩) (.string ⟨#[]⟩) (.int .i64 0) (.int .i64 0) (.int .i64 0)))
    clear hb B1 r1 p2 p3 HT HE B2 r2 r3
    unfold ttup
    go_wp2
    refine bodyPost_ret (v := .tuple #[.agg #[.string ⟨#[]⟩, .string ⟨#[]⟩, .int .i64 0, .int .i64 0, .int .i64 0], .int .i64 0, .iface 120 (.agg #[.int .i64 c])]) ?_ rfl ?_
    rotate_left
    · exact F.out
    · simp [results, Tryz.results34, go_sem, z0, z1, z2, z3, z4]
  | ok r =>
    obtain ⟨t, p⟩ := r
    obtain ⟨P, rfl, hP, hTx⟩ := txtS_yes s (a + 32) t p hT
    rw [hT] at HT
    rw [e32] at HT
    have hPi : (P : Int) ≤ 20000 := by omega
    have HX := mkHid hTx
    clear hT e32 hTx
    go_enter Tryz.func34, Tryz.ntmps34
    go_wp2_with fail
    refine HK.out.mono ?_
    rintro e w1 ⟨rfl, hb⟩
    have B1 := mkHid ((below_trans B0.out hb).setCell (p := ⟨w.heap.size + 1, 0, none⟩) (by simp) (.string (s.extract a (a + 32))))
    have r1 := mkHid (blk_set (blk_below r0.out hb) ⟨w.heap.size + 1, 0, none⟩ (.string (s.extract a (a + 32))) (by simp))
    have p1 := blk_below p0.out hb
    have p2 : Hid ((w1.setCell ⟨w.heap.size + 1, 0, none⟩ (.string (s.extract a (a + 32)))).heap[w.heap.size + 1]? = some (.cells #[.string (s.extract a (a + 32)), .string ⟨#[]⟩, .int .i64 0, .int .i64 0, .int .i64 0] 33)) := mkHid (by have h := heap_setCell_same w1 (w.heap.size + 1) 0 _ _ (.string (s.extract a (a + 32))) p1; simpa using h)
    obtain ⟨y0, y1, y2, y3, y4⟩ := cel5 p1
    have uy := unfrozen p1
    clear hb p1 p0 r0 B0 HK sz0
    go_wp2_with fail
    clear y0 y1 y2 y3 y4 uy
    generalize w1.setCell ⟨w.heap.size + 1, 0, none⟩ (.string (s.extract a (a + 32))) = W1 at *
    refine (HT.out _).mono ?_
    rintro e w2 ⟨rfl, hb⟩
    have hQ2 : w.heap.size + 1 < w2.heap.size := (Array.getElem?_eq_some_iff.1 (blk_below p2.out hb)).1
    have hR : w.heap.size ≠ w.heap.size + 1 := by omega
    have hQ0 : w.heap.size ≤ w.heap.size + 1 := by omega
    generalize hQ : w.heap.size + 1 = Q at *
    have B2 := mkHid ((below_trans B1.out hb).setCell (p := ⟨Q, 1, none⟩) hQ0 (.string t))
    have b2 := mkHid (blk_set (blk_below r1.out hb) ⟨Q, 1, none⟩ (.string t) hR)
    have p3 := blk_below p2.out hb
    obtain ⟨y0, y1, y2, y3, y4⟩ := cel5 p3
    have uy := unfrozen p3
    have p4 : Hid ((w2.setCell ⟨Q, 1, none⟩ (.string t)).heap[Q]? = some (.cells #[.string (s.extract a (a + 32)), .string t, .int .i64 0, .int .i64 0, .int .i64 0] 33)) := mkHid (by have h := heap_setCell_same w2 Q 1 _ _ (.string t) p3; simpa using h)
    have sz2 : (w2.setCell ⟨Q, 1, none⟩ (.string t)).heap.size = w2.heap.size := by simp
    have HNs := mkHid (nums_any s P w2.heap.size 3 3 Q 2 _ _ ((w2.setCell ⟨Q, 1, none⟩ (.string t)).alloc (.cells #[.pointer (some ⟨Q, 2, none⟩), .pointer (some ⟨Q, 3, none⟩), .pointer (some ⟨Q, 4, none⟩)] 101)) hs hP (by omega) (ptr_rd (blk_new (w2.setCell ⟨Q, 1, none⟩ (.string t)) _ w2.heap.size sz2.symm)) (by omega) (blk_old p4.out _) (by simp))
    clear hb B1 r1 p2 p3 HT hQ
    unfold ttup
    go_wp2_with fail
    refine HNs.out.mono ?_
    rintro e w3 (⟨q, l, rfl, hrd, hlen, hq, hw3⟩ | ⟨TT, v, l, rfl, hrd, hlen, hw3⟩)
    · obtain ⟨n1, n2, n3, rfl, _⟩ := three_yes hrd
      have hbw : Below w.heap.size w w3 := by rw [hw3]; exact below_setL Q hQ0 _ _ _ (B2.out.alloc B2.out.size _)
      have hbz : w3.heap[w.heap.size]? = some (.cells #[.string ⟨#[]⟩, .string ⟨#[]⟩, .int .i64 0, .int .i64 0, .int .i64 0] 33) := by rw [hw3, rdn.setL_block _ _ _ _ _ hR]; exact blk_old b2.out _
      have hpz : w3.heap[Q]? = some (.cells #[.string (s.extract a (a + 32)), .string t, .int .i64 n1, .int .i64 n2, .int .i64 n3] 33) := by
        rw [hw3]
        have h1 := heap_setCell_same _ Q 4 _ _ (.int .i64 n3) (heap_setCell_same _ Q 3 _ _ (.int .i64 n2) (heap_setCell_same _ Q 2 _ _ (.int .i64 n1) (blk_old p4.out (.cells #[.pointer (some ⟨Q, 2, none⟩), .pointer (some ⟨Q, 3, none⟩), .pointer (some ⟨Q, 4, none⟩)] 101))))
        simpa [setL] using h1
      clear y0 y1 y2 y3 y4 uy
      obtain ⟨y0, y1, y2, y3, y4⟩ := cel5 hpz
      obtain ⟨z0, z1, z2, z3, z4⟩ := cel5 hbz
      have uf := unfrozen hbz
      have F : Hid (PlPost s a w (.returned (.tuple #[.agg #[.string (s.extract a (a + 32)), .string t, .int .i64 n1, .int .i64 n2, .int .i64 n3], .int .i64 (q : Int), .nilIface])) _) := mkHid ⟨.inl ⟨_, _, _, _, _, q, place_yes hlt HX.out hrd, rfl⟩, below5r hbw (Nat.le_refl _) (.string (s.extract a (a + 32))) (.string t) (.int .i64 n1) (.int .i64 n2) (.int .i64 n3)⟩
      clear hbw hbz hpz hw3 hrd HNs B2 b2 p4 HX hq hlen
      go_wp2
      refine bodyPost_ret (v := .tuple #[.agg #[.string (s.extract a (a + 32)), .string t, .int .i64 n1, .int .i64 n2, .int .i64 n3], .int .i64 (q : Int), .nilIface]) ?_ rfl ?_
      rotate_left
      · exact F.out
      · simp [results, Tryz.results34, go_sem, z0, z1, z2, z3, z4]
    · have hbw : Below w.heap.size w w3 := by rw [hw3]; exact below_setL Q hQ0 _ _ _ (B2.out.alloc B2.out.size _)
      have hbz : w3.heap[w.heap.size]? = some (.cells #[.string ⟨#[]⟩, .string ⟨#[]⟩, .int .i64 0, .int .i64 0, .int .i64 0] 33) := by rw [hw3, rdn.setL_block _ _ _ _ _ hR]; exact blk_old b2.out _
      obtain ⟨z0, z1, z2, z3, z4⟩ := cel5 hbz
      have uf := unfrozen hbz
      have F := mkHid (pl_no TT v (place_nums hlt HX.out hrd) (below5r hbw (Nat.le_refl _) (.string ⟨#[]⟩) (.string ⟨#[]⟩) (.int .i64 0) (.int .i64 0) (.int .i64 0)))
      clear hbw hbz hw3 hrd HNs B2 b2 p4 HX hlen uy
      go_wp2
      refine bodyPost_ret (v := .tuple #[.agg #[.string ⟨#[]⟩, .string ⟨#[]⟩, .int .i64 0, .int .i64 0, .int .i64 0], .int .i64 0, .iface TT v]) ?_ rfl ?_
      rotate_left
      · exact F.out
      · simp [results, Tryz.results34, go_sem, z0, z1, z2, z3, z4]
end Go.Proofs.YtmoojhnblakdhaaGreat.plc
namespace Go.Proofs.YtmoojhnblakdhaaGreat.plc
open Go.RowKit Go.Joins
open Go.Proofs.YtmoojhnblakdhaaGreat.base Go.Proofs.YtmoojhnblakdhaaGreat.blk Go.Proofs.YtmoojhnblakdhaaGreat.aid
open Go.Proofs.YtmoojhnblakdhaaGreat.row (appSem app_fold)
set_option linter.unusedVariables false

/-- bytes stand in a row of our own, nothing in it is frozen -/
structure BRow (w : World) (base g n cap : Nat) (acc : List UInt8) : Prop where
  len : acc.length = n
  lo : base ≤ g
  nc : n ≤ cap
  cm : cap ≤ maxLen
  row : ∃ (cur : Array Value) (fz : Nat × Nat), w.heap[g]? = some (.cells cur 5 fz) ∧ (∀ j, j < cur.size → ¬ (fz.1 ≤ j ∧ j < fz.2)) ∧ cur.size = cap ∧ cur.toList.take n = acc.map byteV
theorem BRow.lt {w : World} {base g n cap : Nat} {acc : List UInt8} (h : BRow w base g n cap acc) : g < w.heap.size := by
  obtain ⟨cur, fz, h1, _⟩ := h.row
  exact (Array.getElem?_eq_some_iff.1 h1).1
theorem BRow.below {w w' : World} {base g n cap : Nat} {acc : List UInt8} (h : BRow w base g n cap acc) (hb : Below w.heap.size w w') : BRow w' base g n cap acc := by
  obtain ⟨cur, fz, h1, h2⟩ := h.row
  exact ⟨h.len, h.lo, h.nc, h.cm, cur, fz, (hb.block g h.lt).trans h1, h2⟩
theorem BRow.cells {w : World} {base g n cap : Nat} {acc : List UInt8} (h : BRow w base g n cap acc) : ∀ j u, (acc.map byteV)[j]? = some u → w.cell? ((⟨g, 0, none⟩ : Addr).add j) = some u := by
  intro j u hu
  obtain ⟨cur, fz, h1, _, _, h4⟩ := h.row
  rw [Addr.add_lit, cell_of_row w g _ cur _ fz h1, Nat.zero_add]
  rw [← h4, List.getElem?_take] at hu
  split at hu
  · simpa using hu
  · cases hu
theorem store_one (w : World) (g j : Nat) (cur : Array Value) (T : TypeId) (fz : Nat × Nat) (v : Value) (hg : w.heap[g]? = some (.cells cur T fz)) (hf : ¬ (fz.1 ≤ j ∧ j < fz.2)) (hj : j < cur.size) (h1 : v.oneCell' = true) :
    (store ⟨g, j, none⟩ v).run Tryz.prog w = .ok () (w.setRow g (cur.setIfInBounds j v)) := by
  have hc : w.cell? ⟨g, j, none⟩ = some cur[j] := by simp [World.cell?, hg, hj]
  have hz : w.frozen? ⟨g, j, none⟩ = false := by
    obtain ⟨a, b⟩ := fz
    have hf' : ¬ (a ≤ j ∧ j < b) := hf
    simp [World.frozen?, hg]
    omega
  rw [run_store Tryz.prog w _ v _ h1, hc]
  simp [hz, setCell_eq_setRow w g j cur T fz v hg]
theorem seg (cur : Array Value) (v : Value) (r : List Value) (p : Nat) (h : p + (r.length + 1) ≤ cur.size) :
    ((cur.setIfInBounds p v).toList.take (p + 1) ++ r ++ (cur.setIfInBounds p v).toList.drop (p + 1 + r.length)).toArray = (cur.toList.take p ++ (v :: r) ++ cur.toList.drop (p + (r.length + 1))).toArray := by
  congr 1
  have e := list_seg_step cur.toList p v r (by simpa using h)
  rw [Array.toList_setIfInBounds]
  have e2 : p + 1 + r.length = p + (r.length + 1) := by omega
  rw [e2]
  simpa [e2] using e
theorem store_all (g p : Nat) (T : TypeId) (fz : Nat × Nat) : ∀ (vs : List Value) (i : Nat) (cur : Array Value) (w : World), w.heap[g]? = some (.cells cur T fz) → (∀ j, j < cur.size → ¬ (fz.1 ≤ j ∧ j < fz.2)) → p + i + vs.length ≤ cur.size → (∀ v ∈ vs, v.oneCell' = true) →
    (storeCells ⟨g, p, none⟩ vs i).run Tryz.prog w = .ok () (w.setRow g (cur.toList.take (p + i) ++ vs ++ cur.toList.drop (p + i + vs.length)).toArray)
  | [], i, cur, w, hg, _, _, _ => by
    have e : (cur.toList.take (p + i) ++ ([] : List Value) ++ cur.toList.drop (p + i + ([] : List Value).length)).toArray = cur := by simp
    rw [e, setRow_self w g cur T fz hg]
    rfl
  | v :: r, i, cur, w, hg, hf, hl, h1 => by
    rw [List.length_cons] at hl
    have hst := store_one w g (p + i) cur T fz v hg (hf _ (by omega)) (by omega) (h1 v (by simp))
    have ih := store_all g p T fz r (i + 1) (cur.setIfInBounds (p + i) v) (w.setRow g (cur.setIfInBounds (p + i) v)) (setRow_heap w g cur _ T fz hg) (by simpa using hf) (by simp; omega) (fun x hx => h1 x (List.mem_cons_of_mem _ hx))
    have hs := seg cur v r (p + i) hl
    have e3 : p + (i + 1) = p + i + 1 := by omega
    rw [e3, hs, setRow_setRow] at ih
    simp only [storeCells, Sem.run_bind, Addr.add_lit, hst, Result.andThen_ok, ih, List.length_cons]
theorem infoU : (Tryz.prog.info? 5).map (fun i => (i.zero, i.size, i.bytes)) = some (some (.int .u8 0), 1, 1) := by kernel_rfl
theorem strCells_is (s : ByteArray) : Lib.strCells s = s.data.toList.map byteV := rfl
/-- a text put behind -/
theorem brow_add (W : World) (base g n cap : Nat) (acc : List UInt8) (s : ByteArray) (h : BRow W base g n cap acc) (hb : base ≤ W.heap.size) (hn : n ≤ 1048576) (hs : s.size ≤ 1048576) :
    ∃ g' cap' w2, (appSem #[22, 9] 22 #[.slice (some ⟨g, 0, none⟩) n cap, .string s]).run Tryz.prog W = .ok (.slice (some ⟨g', 0, none⟩) (n + s.size) cap') w2 ∧ BRow w2 base g' (n + s.size) cap' (acc ++ s.data.toList) ∧ W.grownBy w2 (some g) := by
  obtain ⟨i0, hi, hz0, hz1, hz2⟩ := info_parts infoU
  obtain ⟨cur, fz, h1, h2, h3, h4⟩ := h.row
  have hxl : (acc.map byteV).length = n := by rw [List.length_map, h.len]
  have hlen : (acc ++ s.data.toList).length = n + s.size := by rw [List.length_append, h.len, len_list]
  by_cases hroom : n + s.size ≤ cap
  · have hf := Lib.run_firstCells_string (P := Tryz.prog) W 1 s
    have hst := store_all g n 5 fz (Lib.strCells s) 0 cur W h1 h2 (by rw [Lib.strCells_length]; omega) (Lib.strCells_oneCell s)
    simp only [Nat.add_zero, Lib.strCells_length] at hst
    have hrun : (Builtin.append_ #[22, 9] 22 #[.slice (some ⟨g, 0, none⟩) n cap, .string s]).run Tryz.prog W = .ok (.slice (some ⟨g, 0, none⟩) (n + s.size) cap) (W.setRow g (cur.toList.take n ++ Lib.strCells s ++ cur.toList.drop (n + s.size)).toArray) := by
      simp [Builtin.append_, run_underlying Tryz.underlying22, run_underlying Tryz.underlying9, sizeOf, typeInfo, hi, hz1, Builtin.lenOf, hroom, hf, Addr.add_lit, hst]
    refine ⟨g, cap, _, hrun, ⟨hlen, h.lo, hroom, h.cm, _, fz, setRow_heap W g cur _ _ fz h1, ?_, ?_, ?_⟩, ⟨rfl, rfl, rfl, by simp, fun k _ hk => setRow_other W g k _ (fun e => hk (by rw [e]))⟩⟩
    · intro j hj
      refine h2 j ?_
      simp [Lib.strCells_length] at hj
      omega
    · simp [Lib.strCells_length]
      omega
    · rw [List.map_append, ← strCells_is, ← h4]
      have hl2 : (cur.toList.take n ++ Lib.strCells s).length = n + s.size := by rw [List.length_append, Lib.strCells_length, List.length_take, Array.length_toList]; omega
      rw [← hl2]
      exact List.take_left
  · have hr := Lib.run_append_grow_string (P := Tryz.prog) W 22 9 22 5 i0 (.int .u8 0) Tryz.underlying22 Tryz.underlying9 hi hz0 ⟨g, 0, none⟩ n cap (acc.map byteV) (by rw [hz1, hxl, Nat.mul_one]) h.cells s (by omega) (by omega) (by rw [hz2]; exact growslice_fits (by omega) (by omega))
    have hge := grownCap_ge W (n + s.size) cap 5
    have hcm := grownCap_le_maxLen W (n + s.size) cap 5 (by unfold maxLen; omega)
    refine ⟨W.heap.size, _, _, hr, ⟨hlen, hb, hge, hcm, _, (0, 0), heap_alloc_new W.drew _, fun j _ => by simp, ?_, ?_⟩, ⟨rfl, rfl, rfl, by simp, fun k hk _ => heap_alloc_old W.drew _ hk⟩⟩
    · have hz : (Value.int IntKind.u8 0).cells.size = 1 := rfl
      simp only [Array.size_append, List.size_toArray, size_zeroCells, hz, hxl, Lib.strCells_length]
      omega
    · rw [List.map_append, ← strCells_is]
      simp only [Array.toList_append, List.append_assoc]
      have hl2 : (acc.map byteV ++ Lib.strCells s).length = n + s.size := by rw [List.length_append, Lib.strCells_length, hxl]
      rw [← List.append_assoc, ← hl2]
      exact List.take_left
def convSem (a b : TypeId) (v : Value) : Sem Value := convert a b v
theorem conv_fold (a b : TypeId) (v : Value) : convert a b v = convSem a b v := rfl
/-- a text as bytes -/
theorem brow_new (w : World) (s : ByteArray) (hs : s.size ≤ 1048576) :
    ∃ cap w1, (convSem 9 22 (.string s)).run Tryz.prog w = .ok (.slice (some ⟨w.heap.size, 0, none⟩) s.size cap) w1 ∧ BRow w1 w.heap.size w.heap.size s.size cap s.data.toList ∧ Below w.heap.size w w1 := by
  have hr := run_bytes_of_string (P := Tryz.prog) w 9 22 5 s Tryz.underlying9 Tryz.underlying22 Tryz.underlying5
  have hge := grownCap_ge w s.size 0 5
  have hcm := grownCap_le_maxLen w s.size 0 5 (by unfold maxLen; omega)
  refine ⟨_, _, hr, ⟨len_list s, Nat.le_refl _, hge, hcm, _, _, heap_alloc_new w.drew _, fun j hj => by simp; omega, ?_, ?_⟩, re (w := w) (below_alloc1 w.drew _) rfl rfl rfl rfl⟩
  · have : s.data.size = s.size := rfl
    simp [bytesRow]
    omega
  · have h1 : (s.data.map (fun b => Value.int .u8 b.toNat)).toList = s.data.toList.map byteV := by rw [Array.toList_map]; rfl
    have h2 : (s.data.toList.map byteV).length = s.size := by rw [List.length_map, len_list]
    unfold bytesRow
    rw [Array.toList_append, h1, List.take_append_of_le_length (by omega), List.take_of_length_le (by omega)]
/-- bytes as a text -/
theorem brow_text {w : World} {base g n cap : Nat} {acc : List UInt8} (h : BRow w base g n cap acc) : (convSem 22 9 (.slice (some ⟨g, 0, none⟩) n cap)).run Tryz.prog w = .ok (.string ⟨acc.toArray⟩) w := by
  have hl := h.len
  subst hl
  exact run_convert_bytes_back (P := Tryz.prog) w 22 9 5 ⟨g, 0, none⟩ cap acc Tryz.underlying22 Tryz.underlying5 Tryz.underlying9 (fun j hj => h.cells j _ (by simp [hj, byteV]))
end Go.Proofs.YtmoojhnblakdhaaGreat.plc
namespace Go.Proofs.YtmoojhnblakdhaaGreat.plc
open Go.RowKit Go.Joins Go.Sort
open Go.Proofs.YtmoojhnblakdhaaGreat.base Go.Proofs.YtmoojhnblakdhaaGreat.blk Go.Proofs.YtmoojhnblakdhaaGreat.aid
open Go.Proofs.YtmoojhnblakdhaaGreat.row (Rd Own OwnV appSem app_fold)
open Go.Proofs.YtmoojhnblakdhaaGreat.rwPlace (cs el)
set_option linter.unusedVariables false
set_option linter.unusedSimpArgs false
attribute [local go_sem ↓] app_fold conv_fold

/-- bytes that grow while the call runs -/
structure Bt (w wr : World) (g n cap : Nat) (acc : List UInt8) : Prop where
  row : BRow wr w.heap.size g n cap acc
  below : Below w.heap.size w wr
theorem Bt.next {w wr w' : World} {g n cap : Nat} {acc : List UInt8} (h : Bt w wr g n cap acc) (hb : Below wr.heap.size wr w') : Bt w w' g n cap acc := ⟨h.row.below hb, below_trans h.below hb⟩
theorem Bt.add {w wr : World} {g n cap : Nat} {acc : List UInt8} (h : Bt w wr g n cap acc) (s : ByteArray) (hn : n ≤ 1048576) (hs : s.size ≤ 1048576) :
    ∃ g' cap' w2, (appSem #[22, 9] 22 #[.slice (some ⟨g, 0, none⟩) n cap, .string s]).run Tryz.prog wr = .ok (.slice (some ⟨g', 0, none⟩) (n + s.size) cap') w2 ∧ Bt w w2 g' (n + s.size) cap' (acc ++ s.data.toList) := by
  obtain ⟨g', cap', w2, h1, h2, h3⟩ := brow_add wr w.heap.size g n cap acc s h.row h.below.size hn hs
  exact ⟨g', cap', w2, h1, h2, h.below.grown h3 h.below.size (fun j hj => by cases hj; exact h.row.lo)⟩
theorem bytesP_no {l : List Pl} (h : placesB l = false) : bytesP l = ⟨#[]⟩ := by unfold bytesP; rw [if_neg (by rw [h]; simp)]
set_option maxRecDepth 100000 in
set_option maxHeartbeats 4000000 in
theorem bytesS_any (a : Option Addr) (c : Nat) (l : List Pl) (w : World) (hl : l.length ≤ 1048576) (hs : Small l) (hr : Rd w a (cs l)) :
    Calls Tryz.prog 6 #[.slice a l.length c] w fun e w' => e = .returned (.string (bytesP l)) ∧ Below w.heap.size w w' := by
  by_cases h1 : 400 < l.length
  · have E : Hid (bytesP l = ⟨#[]⟩) := mkHid (bytesP_no (by cases hp : placesB l with | false => rfl | true => have := ((placesB_iff l).1 hp).1; omega))
    have h1i : (400 : Int) < (l.length : Int) := by omega
    rw [E.out]
    clear hr
    go_enter Tryz.func6, Tryz.ntmps6
    go_wp2
    go_ret
    exact ⟨rfl, Below.refl _ _⟩
  have h1i : (l.length : Int) ≤ 400 := by omega
  have HR := mkHid (rightS_any a c l w hl hs hr)
  cases hp : placesB l with
  | false =>
    rw [hp] at HR
    have E : Hid (bytesP l = ⟨#[]⟩) := mkHid (bytesP_no hp)
    rw [E.out]
    clear hr
    go_enter Tryz.func6, Tryz.ntmps6
    go_wp2_with fail
    refine HR.out.mono ?_
    rintro e w1 ⟨rfl, hb⟩
    have B1 := mkHid hb
    clear hb
    go_wp2
    go_ret
    exact ⟨rfl, B1.out⟩
  | true =>
    rw [hp] at HR
    obtain ⟨h300, _, hpl⟩ := (placesB_iff l).1 hp
    have HP := mkHid hpl
    have E : Hid (bytesP l = ⟨(bytesL l).toArray⟩) := mkHid (by unfold bytesP; rw [if_pos hp])
    rw [E.out]
    have HA := mkHid hr
    have HN := mkHid (fun wx => num_spec (l.length : Int) wx (by omega) (by omega))
    have hn3 := nbk.numB_len (k := (l.length : Int)) (by omega)
    have HBL : Hid (bytesL l = (nbk.numB l.length).data.toList ++ recsP l) := mkHid rfl
    generalize nbk.numB (l.length : Int) = hd at *
    clear hr hp hpl
    go_enter Tryz.func6, Tryz.ntmps6
    go_wp2_with fail
    refine HR.out.mono ?_
    rintro e w1 ⟨rfl, hb⟩
    have B1 := mkHid hb
    clear hb HR
    go_wp2_with fail
    refine (HN.out _).mono ?_
    rintro e w2 ⟨rfl, hb⟩
    have B2 := mkHid (below_trans B1.out hb)
    obtain ⟨cap0, w3, hconv, hrow, hb3⟩ := brow_new w2 hd (by omega)
    have T0 : Hid (Bt w w3 w2.heap.size hd.size cap0 (hd.data.toList ++ recsP (l.take 0))) := mkHid ⟨⟨by simp [recsP, len_list], B2.out.size, hrow.nc, hrow.cm, by simpa [recsP] using hrow.row⟩, below_trans B2.out hb3⟩
    clear hb hrow hb3 B1 B2 HN
    go_wp2_with fail
    go_loopw [3, 4] (fun v i wr => ∃ (k g n cap : Nat), k ≤ l.length ∧ i = .int .i64 k ∧ v = .slice (some ⟨g, 0, none⟩) n cap ∧ Hid (Bt w wr g n cap (hd.data.toList ++ recsP (l.take k))))
      (fun _ i _ => l.length - (intOf i).toNat)
    case atStart => exact ⟨0, _, _, _, Nat.zero_le _, rfl, rfl, T0⟩
    case round =>
      obtain ⟨k, g, n, cap, hk, rfl, rfl, T⟩ := hrel
      clear T0
      by_cases hlt : k < l.length
      · have hlti : (k : Int) < (l.length : Int) := by omega
        obtain ⟨⟨x0, x1, x2, x3, x4⟩, hx⟩ : ∃ y, l[k]? = some y := ⟨_, List.getElem?_eq_getElem hlt⟩
        obtain ⟨g1, o1, rfl, c0, c1, c2, c3, c4, l1⟩ := el HA.out hx
        simp only at c0 c1 c2 c3 c4
        have hpx := HP.out _ (List.mem_of_getElem? hx)
        obtain ⟨p1, p2, p3, p4, p5, p6, p7, p8⟩ := plB_small hpx
        simp only at p1 p2 p3 p4 p5 p6 p7 p8
        have hrs := recsP_snoc hx
        have hn : n ≤ 3 + 222 * k := by
          have h2 := T.out.row.len
          have h3 := recsP_len (l.take k) (fun p hq => HP.out p (List.mem_of_mem_take hq))
          have h4 : (l.take k).length ≤ k := by simp; omega
          rw [List.length_append, len_list] at h2
          have h5 : 222 * (l.take k).length ≤ 222 * k := Nat.mul_le_mul_left _ h4
          omega
        have hC : Hid (∀ W, Below w.heap.size w W → W.cell? ⟨g1, o1 + k * 5, none⟩ = some (.string x0) ∧ W.cell? ⟨g1, o1 + k * 5 + 1, none⟩ = some (.string x1) ∧ W.cell? ⟨g1, o1 + k * 5 + 2, none⟩ = some (.int .i64 x2) ∧ W.cell? ⟨g1, o1 + k * 5 + 3, none⟩ = some (.int .i64 x3) ∧ W.cell? ⟨g1, o1 + k * 5 + 4, none⟩ = some (.int .i64 x4)) :=
          mkHid (fun W hb => ⟨(hb.cell (p := ⟨g1, o1 + k * 5, none⟩) l1).trans c0, (hb.cell (p := ⟨g1, o1 + k * 5 + 1, none⟩) l1).trans c1, (hb.cell (p := ⟨g1, o1 + k * 5 + 2, none⟩) l1).trans c2, (hb.cell (p := ⟨g1, o1 + k * 5 + 3, none⟩) l1).trans c3, (hb.cell (p := ⟨g1, o1 + k * 5 + 4, none⟩) l1).trans c4⟩)
        have HT := mkHid (fun wx => fnExactPutText.spec_any x1 wx (by omega))
        have HN2 := mkHid (fun wx => num_spec x2 wx (by omega) (by omega))
        have HN3 := mkHid (fun wx => num_spec x3 wx (by omega) (by omega))
        have HN4 := mkHid (fun wx => num_spec x4 wx (by omega) (by omega))
        have q1 := fnExactPutText.pre_size x1.size
        have q2 := nbk.numB_len (k := x2) (by omega)
        have q3 := nbk.numB_len (k := x3) (by omega)
        have q4 := nbk.numB_len (k := x4) (by omega)
        have hrec : (recP (x0, x1, x2, x3, x4)).data.toList = x0.data.toList ++ (fnExactPutText.pre x1.size ++ x1).data.toList ++ (nbk.numB x2).data.toList ++ (nbk.numB x3).data.toList ++ (nbk.numB x4).data.toList := by unfold recP; simp only [app_list]
        have hpt : (fnExactPutText.pre x1.size ++ x1).size ≤ 200 := by rw [ByteArray.size_append]; omega
        generalize fnExactPutText.pre x1.size ++ x1 = pt at *
        generalize nbk.numB x2 = n2 at *
        generalize nbk.numB x3 = n3 at *
        generalize nbk.numB x4 = n4 at *
        have HS := mkHid (hrs.trans (by rw [hrec]))
        obtain ⟨d0, d1, d2, d3, d4⟩ := hC.out _ T.out.below
        obtain ⟨ga, ca, wa, ha, Ta⟩ := T.out.add x0 (by omega) (by omega)
        rw [p1] at ha Ta
        have T1 := mkHid Ta
        clear T Ta hx hpx hrs hrec c0 c1 c2 c3 c4
        obtain ⟨e0, e1, e2, e3, e4⟩ := hC.out _ T1.out.below
        go_wp2_with fail
        refine (HT.out _).mono ?_
        rintro e wb ⟨rfl, hb⟩
        obtain ⟨gc, cc, wc, hc, Tc⟩ := (T1.out.next hb).add pt (by omega) (by omega)
        have T2 := mkHid Tc
        clear T1 hb Tc HT d0 d1 d2 d3 d4 e0 e1 e2 e3 e4 ha
        obtain ⟨d0, d1, d2, d3, d4⟩ := hC.out _ T2.out.below
        go_wp2_with fail
        refine (HN2.out _).mono ?_
        rintro e wd ⟨rfl, hb⟩
        obtain ⟨ge, ce, we, he, Te⟩ := (T2.out.next hb).add n2 (by omega) (by omega)
        have T3 := mkHid Te
        clear T2 hb Te HN2 d0 d1 d2 d3 d4 hc
        obtain ⟨d0, d1, d2, d3, d4⟩ := hC.out _ T3.out.below
        go_wp2_with fail
        refine (HN3.out _).mono ?_
        rintro e wf ⟨rfl, hb⟩
        obtain ⟨gh, ch, wh, hh, Th⟩ := (T3.out.next hb).add n3 (by omega) (by omega)
        have T4 := mkHid Th
        clear T3 hb Th HN3 d0 d1 d2 d3 d4 he
        obtain ⟨d0, d1, d2, d3, d4⟩ := hC.out _ T4.out.below
        go_wp2_with fail
        refine (HN4.out _).mono ?_
        rintro e wi ⟨rfl, hb⟩
        obtain ⟨gj, cj, wj, hj, Tj⟩ := (T4.out.next hb).add n4 (by omega) (by omega)
        have N1 : Hid (Bt w wj gj _ cj (hd.data.toList ++ recsP (l.take (k + 1)))) := mkHid (by
          have e : hd.data.toList ++ recsP (l.take (k + 1)) = ((((hd.data.toList ++ recsP (l.take k) ++ x0.data.toList) ++ pt.data.toList) ++ n2.data.toList) ++ n3.data.toList) ++ n4.data.toList := by rw [HS.out]; simp only [List.append_assoc]
          rw [e]
          exact Tj)
        clear T4 hb Tj HN4 d0 d1 d2 d3 d4 hh
        go_wp2
        go_roundw
        case rel => exact ⟨k + 1, _, _, _, by omega, by go_num, rfl, N1⟩
        case measure => simp [intOf]; omega
      · obtain rfl : k = l.length := by omega
        have hrow := T.out.row
        rw [List.take_of_length_le (Nat.le_refl _), ← HBL.out] at hrow
        have hconv2 := brow_text hrow
        have F := mkHid T.out.below
        clear T hrow hconv
        go_wp2
        go_ret
        exact ⟨rfl, F.out⟩
end Go.Proofs.YtmoojhnblakdhaaGreat.plc
namespace Go.Proofs.YtmoojhnblakdhaaGreat.bld
open Go.RowKit Go.Joins
open Go.Proofs.YtmoojhnblakdhaaGreat.base Go.Proofs.YtmoojhnblakdhaaGreat.blk Go.Proofs.YtmoojhnblakdhaaGreat.aid
open Go.Proofs.YtmoojhnblakdhaaGreat.row (appSem app_fold)
set_option linter.unusedVariables false
attribute [local go_sem ↓] app_fold

theorem infoB : ∃ j, Tryz.prog.info? 51 = some j ∧ j.size = 2 := Option.map_eq_some_iff.1 (show (Tryz.prog.info? 51).map (·.size) = some 2 by kernel_rfl)
theorem info8 : (Tryz.prog.info? 5).map (fun i => (i.zero, i.size, i.bytes)) = some (some (.int .u8 0), 1, 1) := by kernel_rfl
theorem lies : liesAt Tryz.prog Tryz.prog.depth 51 (2 / Tryz.prog.cellsOf 51) 0 51 1 = true := by kernel_rfl

set_option maxRecDepth 100000 in
theorem check_used (g : Nat) (w : World) (h0 : w.cell? ⟨g, 0, none⟩ = some (.pointer (some ⟨g, 0, none⟩))) :
    Calls Tryz.prog 51 #[.pointer (some ⟨g, 0, none⟩)] w fun e w' => e = .returned (.tuple #[]) ∧ w' = w := by
  obtain ⟨j, hj, hjs⟩ := infoB
  have hn := Lib.run_neq_ptr_same (P := Tryz.prog) w ⟨g, 0, none⟩ Tryz.underlying49 hj
  go_enter Tryz.func51, Tryz.ntmps51
  go_wp2
  go_end0
  exact ⟨rfl, rfl⟩

set_option maxRecDepth 100000 in
theorem check_fresh (g : Nat) (w : World) (h0 : w.cell? ⟨g, 0, none⟩ = some (.pointer none)) (hsh : w.shape? g = some (51, 2)) (hz : w.frozen? ⟨g, 0, none⟩ = false) :
    Calls Tryz.prog 51 #[.pointer (some ⟨g, 0, none⟩)] w fun e w' => e = .returned (.tuple #[]) ∧ w' = w.setCell ⟨g, 0, none⟩ (.pointer (some ⟨g, 0, none⟩)) := by
  obtain ⟨j, hj, hjs⟩ := infoB
  have h1 := Lib.run_to_unsafe (P := Tryz.prog) w ⟨g, 0, none⟩ Tryz.underlying49 Tryz.underlying114 hj (by rw [hjs]; decide) hsh (Nat.zero_lt_succ 1)
  have h2 : (callFunc 73 #[.pointer (some ⟨g, 0, none⟩)]).run Tryz.prog w = .ok (.value (.pointer (some ⟨g, 0, none⟩))) w := by
    rw [run_callFunc_extern Tryz.func73 (by kernel_rfl) (by kernel_rfl) (by kernel_rfl) (e := Extern.AbiNoEscape.same) (by kernel_rfl), Lib.run_noEscape]
    rfl
  have h3 := Lib.run_from_unsafe (P := Tryz.prog) w ⟨g, 0, none⟩ Tryz.underlying114 Tryz.underlying49 hj hsh lies
  go_enter Tryz.func51, Tryz.ntmps51
  go_wp2
  go_end0
  exact ⟨rfl, rfl⟩

theorem check_any (B g : Nat) (bs : List Value) (w : World) (h : Lib.IsBuilder 51 5 B g bs w) :
    Calls Tryz.prog 51 #[.pointer (some ⟨g, 0, none⟩)] w fun e w' => e = .returned (.tuple #[]) ∧ Lib.BuilderAt 51 5 B g (.pointer (some ⟨g, 0, none⟩)) bs w' ∧ Below B w w' ∧ w.grownBy w' (some g) := by
  rcases h with h | h
  · refine (check_fresh g w h.cell0 h.shape h.frozen0).mono ?_
    rintro e w' ⟨rfl, rfl⟩
    exact ⟨rfl, h.used _, (Below.refl B w).setCell (p := ⟨g, 0, none⟩) h.1 _, grew_cell _ _ _ _⟩
  · refine (check_used g w h.cell0).mono ?_
    rintro e w' ⟨rfl, rfl⟩
    exact ⟨rfl, h, Below.refl B _, grew_refl _ _⟩

/-- what is no row of bytes and not the builder stays -/
def Others (g : Nat) (w w' : World) : Prop := ∀ k o, w.heap[k]? = some o → k ≠ g → (∀ cs fr, o ≠ .cells cs 5 fr) → w'.heap[k]? = some o

set_option maxRecDepth 100000 in
theorem write_any (B g : Nat) (acc : List UInt8) (s : ByteArray) (w : World) (h : Lib.IsBuilder 51 5 B g (acc.map byteV) w) (hl : acc.length ≤ 1048576) (hs : s.size ≤ 1048576) (hB : B ≤ w.heap.size) :
    Calls Tryz.prog 23 #[.pointer (some ⟨g, 0, none⟩), .string s] w fun e w' => e = .returned (.tuple #[.int .i64 s.size, .nilIface]) ∧ Lib.IsBuilder 51 5 B g ((acc ++ s.data.toList).map byteV) w' ∧ Below B w w' ∧ Others g w w' := by
  have HC := mkHid (check_any B g _ w h)
  have hsi : (s.size : Int) ≤ 1048576 := by omega
  clear h
  go_enter Tryz.func23, Tryz.ntmps23
  go_wp2_with fail
  refine HC.out.mono ?_
  rintro e w1 ⟨rfl, ⟨hBg, v, hb, hown, hne⟩, hb1, hgg⟩
  obtain ⟨i0, hi, hz0, hz1, hz2⟩ := info_parts info8
  rw [List.length_map] at hown
  obtain ⟨v', w2, hrun, hown2, hgr, _⟩ := Lib.run_append_own_string (P := Tryz.prog) w1 B 22 9 22 5 i0 Tryz.underlying22 Tryz.underlying9 hi hz0 hz1 hz2 v acc.length (acc.map byteV) hown s (by unfold maxLen; omega) (by omega) (Nat.le_trans hB hb1.size)
  have hrun' : (appSem #[22, 9] 22 #[v, .string s]).run Tryz.prog w1 = .ok v' w2 := hrun
  obtain ⟨ao, n', cap, rfl⟩ : ∃ ao n' cap, v = .slice ao n' cap := by
    rcases hown.2 with ⟨hv, _⟩ | ⟨x, cap, cur, hv, _⟩
    · exact ⟨_, _, _, hv⟩
    · exact ⟨_, _, _, hv⟩
  obtain ⟨ao', m', cap', rfl⟩ : ∃ ao n' cap, v' = .slice ao n' cap := by
    rcases hown2.2 with ⟨hv, _⟩ | ⟨x, cap, cur, hv, _⟩
    · exact ⟨_, _, _, hv⟩
    · exact ⟨_, _, _, hv⟩
  have hb2 : w2.heap[g]? = some (.cells #[.pointer (some ⟨g, 0, none⟩), .slice ao n' cap] 51 (0, 0)) := (hgr.block g (Array.getElem?_eq_some_iff.1 hb).1 (fun e => hne e.symm)).trans hb
  have c1 := (cel2 hb).2
  have d1 := (cel2 hb2).2
  have f1 := unfrozen hb2 1
  have HO : Others g w (w2.setCell ⟨g, 1, none⟩ (.slice ao' m' cap')) := by
    intro k o hk hkg hno
    have hk1 : w1.heap[k]? = some o := (hgg.block k (Array.getElem?_eq_some_iff.1 hk).1 (by simpa using hkg)).trans hk
    have hk2 : w2.heap[k]? = some o := (hgr.block k (Array.getElem?_eq_some_iff.1 hk1).1 (fun e => by
      rcases hown.2 with ⟨hv, _⟩ | ⟨x, cp, cur, hv, _, hx, _⟩
      · rw [hv] at e
        cases e
      · rw [hv] at e
        obtain rfl : k = x := by simpa [Value.ownBlock] using e
        rw [hk1] at hx
        exact hno _ _ (Option.some.inj hx))).trans hk1
    exact blk_set hk2 _ _ hkg
  have N : Hid (Lib.IsBuilder 51 5 B g ((acc ++ s.data.toList).map byteV) (w2.setCell ⟨g, 1, none⟩ (.slice ao' m' cap')) ∧ Below B w (w2.setCell ⟨g, 1, none⟩ (.slice ao' m' cap')) ∧ Others g w (w2.setCell ⟨g, 1, none⟩ (.slice ao' m' cap'))) :=
    mkHid ⟨.inr (Lib.BuilderAt.put (T := 51) (e := 5) hBg hb2 (bs' := (acc ++ s.data.toList).map byteV) (by
      have hsz : s.data.toList.length = s.size := by rw [Array.length_toList]; rfl
      rw [List.length_map, List.length_append, hsz, List.map_append]
      exact hown2) (by decide)), (hb1.grown hgr (Nat.le_trans hB hb1.size) (fun k hk => (hown.lt k hk).1)).setCell (p := ⟨g, 1, none⟩) hBg _, HO⟩
  clear hrun hown hown2 hgr hb hb1 hb2 hne HC
  go_wp2
  exact bodyPost_ret (v := .tuple #[.int .i64 s.size, .nilIface]) (by simp [results, Tryz.results23, go_sem]) rfl ⟨rfl, N.out.1, N.out.2.1, N.out.2.2⟩

set_option maxRecDepth 100000 in
theorem str_some (B g : Nat) (acc : List UInt8) (w : World) (h : Lib.IsBuilder 51 5 B g (acc.map byteV) w) (h0 : acc ≠ []) :
    Calls Tryz.prog 26 #[.pointer (some ⟨g, 0, none⟩)] w fun e w' => e = .returned (.string ⟨acc.toArray⟩) ∧ Below B w w' := by
  obtain ⟨p, hB, v, hbk, hown, hne⟩ : ∃ p, Lib.BuilderAt 51 5 B g p (acc.map byteV) w := by
    rcases h with h | h
    · exact ⟨_, h⟩
    · exact ⟨_, h⟩
  rw [List.length_map] at hown
  have hl0 : acc.length ≠ 0 := by simpa using h0
  have hown' := hown
  rcases hown.2 with ⟨_, hz⟩ | ⟨x, cap, cur, rfl, hbg, hg, hnc, hcm, hcs, htake⟩
  · exact absurd hz hl0
  have hSD : ∀ W : World, (Builtin.unsafeSliceData_ #[22] 92 #[.slice (some ⟨x, 0, none⟩) acc.length cap]).run Tryz.prog W = .ok (.pointer (some ⟨x, 0, none⟩)) W := fun W => Lib.run_unsafeSliceData_row _ _ _ _ _ _ (by omega)
  have hUS : (Builtin.unsafeString_ #[92, 3] 9 #[.pointer (some ⟨x, 0, none⟩), .int .i64 acc.length]).run Tryz.prog w.drew = .ok (.string ⟨acc.toArray⟩) (w.drew.freeze ⟨x, 0, none⟩ acc.length) := by
    refine Lib.run_unsafeString_row w.drew 92 3 9 5 Tryz.underlying92 (by kernel_rfl) x cur.size (by have hg' : w.drew.heap[x]? = some (.cells cur 5 (0, 0)) := hg; simp [World.shape?, hg']) acc h0 (by omega) (by unfold maxLen at hcm; omega) ?_
    intro j y hy
    exact hown'.cells (g := x) rfl j (.int .u8 y.toNat) (by simp [byteV, hy])
  have c1 := (cel2 hbk).2
  go_enter Tryz.func26, Tryz.ntmps26
  go_wp2_with fail
  go_region
  all_goals go_wp2
  all_goals go_ret
  all_goals exact ⟨rfl, Lib.below_freeze (Below.drew (Below.refl B w)) (p := ⟨x, 0, none⟩) hbg _⟩

set_option maxRecDepth 100000 in
theorem str_nil (B g : Nat) (p : Value) (w : World) (hbk : w.heap[g]? = some (.cells #[p, .slice none 0 0] 51 (0, 0))) :
    Calls Tryz.prog 26 #[.pointer (some ⟨g, 0, none⟩)] w fun e w' => e = .returned (.string ⟨#[]⟩) ∧ Below B w w' := by
  have hSD : ∀ W : World, (Builtin.unsafeSliceData_ #[22] 92 #[.slice none 0 0]).run Tryz.prog W = .ok (.pointer none) W := fun W => rfl
  have hUS : ∀ W : World, (Builtin.unsafeString_ #[92, 3] 9 #[.pointer none, .int .i64 0]).run Tryz.prog W = .ok (.string .empty) W := fun W => Lib.run_unsafeString_none W _ _ _ none
  have c1 := (cel2 hbk).2
  go_enter Tryz.func26, Tryz.ntmps26
  go_wp2_with fail
  go_region
  all_goals go_wp2
  all_goals go_ret
  all_goals exact ⟨rfl, Below.drew (Below.refl B w)⟩
end Go.Proofs.YtmoojhnblakdhaaGreat.bld
namespace Go.Proofs.YtmoojhnblakdhaaGreat.plc
open Go.RowKit Go.Joins
open Go.Proofs.YtmoojhnblakdhaaGreat.base Go.Proofs.YtmoojhnblakdhaaGreat.blk Go.Proofs.YtmoojhnblakdhaaGreat.aid
open Go.Proofs.YtmoojhnblakdhaaGreat.row (Rd Own OwnV)
open Go.Proofs.YtmoojhnblakdhaaGreat.rwPlace (cs el)
set_option linter.unusedVariables false
set_option linter.unusedSimpArgs false

theorem bld_next {B g : Nat} {bs : List Value} {W W' : World} (h : Lib.IsBuilder 51 5 B g bs W) (hg : W.grownBy W' none) : Lib.IsBuilder 51 5 B g bs W' := by
  have aux : ∀ p, Lib.BuilderAt 51 5 B g p bs W → Lib.BuilderAt 51 5 B g p bs W' := by
    rintro p ⟨hB, v, hb, hown, hne⟩
    refine ⟨hB, v, (hg.block g (Array.getElem?_eq_some_iff.1 hb).1 (by simp)).trans hb, hown.kept hg ?_, hne⟩
    by_cases hn : v.ownBlock = none
    · exact .inl hn
    · exact .inr hn
  exact h.imp (aux _) (aux _)
/-- a builder at B that grows while the call runs -/
structure Bi (w : World) (B : Nat) (acc : List UInt8) (W : World) : Prop where
  below : Below w.heap.size w W
  le : w.heap.size ≤ B
  sz : B < W.heap.size
  bld : Lib.IsBuilder 51 5 B B (acc.map byteV) W
theorem Bi.next {w W W' : World} {B : Nat} {acc : List UInt8} (h : Bi w B acc W) (hb : Below W.heap.size W W') : Bi w B acc W' :=
  ⟨below_trans h.below hb, h.le, Nat.lt_of_lt_of_le h.sz hb.size, bld_next h.bld (below_grew hb none)⟩
theorem Bi.put {w W W' : World} {B : Nat} {acc acc' : List UInt8} (h : Bi w B acc W) (h1 : Lib.IsBuilder 51 5 B B (acc'.map byteV) W') (h2 : Below B W W') : Bi w B acc' W' :=
  ⟨h.below.trans (h2.mono h.le), h.le, Nat.lt_of_lt_of_le h.sz h2.size, h1⟩
set_option maxRecDepth 100000 in
set_option maxHeartbeats 4000000 in
theorem bytesI_any (a : Option Addr) (c : Nat) (l : List Pl) (w : World) (hl : l.length ≤ 1048576) (hs : Small l) (hr : Rd w a (cs l)) :
    Calls Tryz.prog 5 #[.slice a l.length c] w fun e w' => e = .returned (.string (bytesP l)) ∧ Below w.heap.size w w' := by
  have HR := mkHid (rightI_any a c l w hl hs hr)
  cases hp : placesB l with
  | false =>
    rw [hp] at HR
    have E : Hid (bytesP l = ⟨#[]⟩) := mkHid (bytesP_no hp)
    rw [E.out]
    clear hr
    go_enter Tryz.func5, Tryz.ntmps5
    go_wp2_with fail
    refine HR.out.mono ?_
    rintro e w1 ⟨rfl, hb⟩
    have B1 := mkHid hb
    clear hb
    go_wp2
    go_ret
    exact ⟨rfl, B1.out⟩
  | true =>
    rw [hp] at HR
    obtain ⟨h300, _, hpl⟩ := (placesB_iff l).1 hp
    have HP := mkHid hpl
    have hli : (l.length : Int) ≤ 300 := by omega
    have E : Hid (bytesP l = ⟨(bytesL l).toArray⟩) := mkHid (by unfold bytesP; rw [if_pos hp])
    rw [E.out]
    have HA := mkHid hr
    have HN := mkHid (fun wx => num_impl (l.length : Int) wx (by omega) (by omega))
    have hn3 := nbk.numB_len (k := (l.length : Int)) (by omega)
    have hn0 : Hid (bytesL l ≠ []) := mkHid (by
      unfold bytesL nbk.numB
      have := nbk.num_pos (2 * (l.length : Int).toNat)
      intro e
      have e2 := congrArg List.length e
      rw [List.length_append] at e2
      have e3 : ({ data := (num (2 * (l.length : Int).toNat)).toArray } : ByteArray).data.toList = num (2 * (l.length : Int).toNat) := by simp
      rw [e3] at e2
      simp only [List.length_nil] at e2
      omega)
    have HBL : Hid (bytesL l = (nbk.numB l.length).data.toList ++ recsP l) := mkHid rfl
    generalize nbk.numB (l.length : Int) = hd at *
    clear hr hp hpl
    go_enter Tryz.func5, Tryz.ntmps5
    go_wp2_with fail
    refine HR.out.mono ?_
    rintro e w1 ⟨rfl, hb⟩
    have T0 : Hid (Bi w w1.heap.size [] (w1.alloc (.cells #[.pointer none, .slice none 0 0] 51))) := mkHid ⟨hb.alloc hb.size _, hb.size, by simp, Lib.fresh_isBuilder 51 5 w1⟩
    clear hb HR
    generalize hB : w1.heap.size = B at *
    go_wp2_with fail
    refine (HN.out _).mono ?_
    rintro e w2 ⟨rfl, hb⟩
    have T1 := mkHid (T0.out.next hb)
    clear hb T0 HN
    have HW := mkHid (bld.write_any B B [] hd w2 T1.out.bld (by simp) (by omega) (Nat.le_of_lt T1.out.sz))
    go_wp2_with fail
    refine HW.out.mono ?_
    rintro e w3 ⟨rfl, hi, hb, _⟩
    have T2 : Hid (Bi w B (hd.data.toList ++ recsP (l.take 0)) w3) := mkHid (T1.out.put (by simpa [recsP] using hi) hb)
    clear hi hb HW T1 hB
    go_wp2_with fail
    go_loopw [15] (fun i wr => ∃ k : Nat, k ≤ l.length ∧ i = .int .i64 k ∧ Hid (Bi w B (hd.data.toList ++ recsP (l.take k)) wr))
      (fun i _ => l.length - (intOf i).toNat)
    case atStart => exact ⟨0, Nat.zero_le _, rfl, T2⟩
    case round =>
      obtain ⟨k, hk, rfl, T⟩ := hrel
      clear T2
      by_cases hlt : k < l.length
      · have hlti : (k : Int) < (l.length : Int) := by omega
        obtain ⟨⟨x0, x1, x2, x3, x4⟩, hx⟩ : ∃ y, l[k]? = some y := ⟨_, List.getElem?_eq_getElem hlt⟩
        obtain ⟨g1, o1, rfl, c0, c1, c2, c3, c4, l1⟩ := el (HA.out.below T.out.below) hx
        simp only at c0 c1 c2 c3 c4
        have hpx := HP.out _ (List.mem_of_getElem? hx)
        obtain ⟨p1, p2, p3, p4, p5, p6, p7, p8⟩ := plB_small hpx
        simp only at p1 p2 p3 p4 p5 p6 p7 p8
        have hrs := recsP_snoc hx
        have hrec2 := recP_size hpx
        have hn : (hd.data.toList ++ recsP (l.take k)).length ≤ 3 + 222 * k := by
          have h3 := recsP_len (l.take k) (fun p hq => HP.out p (List.mem_of_mem_take hq))
          have h4 : (l.take k).length ≤ k := by simp; omega
          rw [List.length_append, len_list]
          have h5 : 222 * (l.take k).length ≤ 222 * k := Nat.mul_le_mul_left _ h4
          omega
        have HT := mkHid (fun wx => fnExactPutText.impl_any x1 wx (by omega))
        have HN2 := mkHid (fun wx => num_impl x2 wx (by omega) (by omega))
        have HN3 := mkHid (fun wx => num_impl x3 wx (by omega) (by omega))
        have HN4 := mkHid (fun wx => num_impl x4 wx (by omega) (by omega))
        have q1 := fnExactPutText.pre_size x1.size
        have q2 := nbk.numB_len (k := x2) (by omega)
        have q3 := nbk.numB_len (k := x3) (by omega)
        have q4 := nbk.numB_len (k := x4) (by omega)
        have hWr := mkHid (fun wx (hb : Bi w B (hd.data.toList ++ recsP (l.take k)) wx) => bld.write_any B B (hd.data.toList ++ recsP (l.take k)) (recP (x0, x1, x2, x3, x4)) wx hb.bld (by omega) (by omega) (Nat.le_of_lt hb.sz))
        have hPut := mkHid (fun wx wy (hb : Bi w B (hd.data.toList ++ recsP (l.take k)) wx) (h1 : Lib.IsBuilder 51 5 B B ((hd.data.toList ++ recsP (l.take k) ++ (recP (x0, x1, x2, x3, x4)).data.toList).map byteV) wy) (h2 : Below B wx wy) => (show Bi w B (hd.data.toList ++ recsP (l.take (k + 1))) wy by rw [hrs, ← List.append_assoc]; exact hb.put h1 h2))
        have hpt : (fnExactPutText.pre x1.size ++ x1).size ≤ 200 := by rw [ByteArray.size_append]; omega
        have ER : recP (x0, x1, x2, x3, x4) = x0 ++ (fnExactPutText.pre x1.size ++ x1) ++ nbk.numB x2 ++ nbk.numB x3 ++ nbk.numB x4 := rfl
        rw [ER] at hWr hPut
        generalize fnExactPutText.pre x1.size ++ x1 = pt at *
        generalize nbk.numB x2 = n2 at *
        generalize nbk.numB x3 = n3 at *
        generalize nbk.numB x4 = n4 at *
        have a1 : (9223372036854775807 < x0.size + pt.size) = False := by simp; omega
        have a2 : (9223372036854775807 < (x0 ++ pt).size + n2.size) = False := by simp [ByteArray.size_append]; omega
        have a3 : (9223372036854775807 < (x0 ++ pt ++ n2).size + n3.size) = False := by simp [ByteArray.size_append]; omega
        have a4 : (9223372036854775807 < (x0 ++ pt ++ n2 ++ n3).size + n4.size) = False := by simp [ByteArray.size_append]; omega
        have d1 := fun wx => run_string_add_sum (P := Tryz.prog) wx x0 pt (by omega)
        have d2 := fun wx => run_string_add_sum (P := Tryz.prog) wx (x0 ++ pt) n2 (by simp [ByteArray.size_append]; omega)
        have d3 := fun wx => run_string_add_sum (P := Tryz.prog) wx (x0 ++ pt ++ n2) n3 (by simp [ByteArray.size_append]; omega)
        have d4 := fun wx => run_string_add_sum (P := Tryz.prog) wx (x0 ++ pt ++ n2 ++ n3) n4 (by simp [ByteArray.size_append]; omega)
        have hBw := T.out.sz
        have P0 := mkHid (And.intro (T.out.next (below_alloc1 wr (.cells #[.string x0, .string x1, .int .i64 x2, .int .i64 x3, .int .i64 x4] 33))) (blk_new wr (.cells #[.string x0, .string x1, .int .i64 x2, .int .i64 x3, .int .i64 x4] 33) wr.heap.size rfl))
        have HWR := mkHid hBw
        clear T hx hpx hrs hrec2 p1 p2 p3 p4 p5 p6 p7 p8 q1 q2 q3 q4 hn hpt ER
        go_wp2_with fail
        generalize wr.alloc (.cells #[.string x0, .string x1, .int .i64 x2, .int .i64 x3, .int .i64 x4] 33) = W at *
        clear c0 c1 c2 c3 c4
        obtain ⟨c0, c1, c2, c3, c4⟩ := cel5 P0.out.2
        go_region_held3 (fun w' => w'.cell? ⟨wr.heap.size, 0, none⟩ = some (.string x0) ∧ w'.cell? ⟨wr.heap.size, 1, none⟩ = some (.string x1) ∧ w'.cell? ⟨wr.heap.size, 2, none⟩ = some (.int .i64 x2) ∧ w'.cell? ⟨wr.heap.size, 3, none⟩ = some (.int .i64 x3) ∧ w'.cell? ⟨wr.heap.size, 4, none⟩ = some (.int .i64 x4)) (go_keep)
          ((first
            | (go_at_call 25; refine Calls.mono (HT.out _) ?_; rintro e w4 ⟨rfl, hb4⟩; have r4 := re (w := W) hb4 rfl rfl rfl rfl; have P4 := mkHid (And.intro (P0.out.1.next r4) (blk_below P0.out.2 r4)); obtain ⟨e0, e1, e2, e3, e4⟩ := cel5 P4.out.2; clear hb4 r4)
            | (go_at_call 24; have t := P6; clear t; refine Calls.mono (HN4.out _) ?_; rintro e w7 ⟨rfl, hb7⟩; have r7 := re (w := w6) hb7 rfl rfl rfl rfl; have P7 := mkHid (And.intro (P6.out.1.next r7) (blk_below P6.out.2 r7)); obtain ⟨j0, j1, j2, j3, j4⟩ := cel5 P7.out.2; clear hb7 r7)
            | (go_at_call 24; have t := P5; clear t; refine Calls.mono (HN3.out _) ?_; rintro e w6 ⟨rfl, hb6⟩; have r6 := re (w := w5) hb6 rfl rfl rfl rfl; have P6 := mkHid (And.intro (P5.out.1.next r6) (blk_below P5.out.2 r6)); obtain ⟨i0, i1, i2, i3, i4⟩ := cel5 P6.out.2; clear hb6 r6)
            | (go_at_call 24; have t := P4; clear t; refine Calls.mono (HN2.out _) ?_; rintro e w5 ⟨rfl, hb5⟩; have r5 := re (w := w4) hb5 rfl rfl rfl rfl; have P5 := mkHid (And.intro (P4.out.1.next r5) (blk_below P4.out.2 r5)); obtain ⟨f0, f1, f2, f3, f4⟩ := cel5 P5.out.2; clear hb5 r5)
            | (go_at_call 23; refine Calls.mono (hWr.out _ P7.out.1) ?_; rintro e w8 ⟨rfl, hi8, hb8, ho8⟩; have P8 := mkHid (hPut.out w7 w8 P7.out.1 hi8 hb8); have y := ho8 wr.heap.size _ P7.out.2 (by have := HWR.out; omega) (fun cs fr e => by cases e); obtain ⟨k0, k1, k2, k3, k4⟩ := cel5 y; clear hi8 hb8 ho8)))
        clear c0 c1 c2 c3 c4 e0 e1 e2 e3 e4 f0 f1 f2 f3 f4 i0 i1 i2 i3 i4 j0 j1 j2 j3 j4 k0 k1 k2 k3 k4 y P0 P4 P5 P6 P7 hWr hPut HN2 HN3 HN4 HT a1 a2 a3 a4 d1 d2 d3 d4 HWR hBw
        go_wp2
        go_roundw
        case rel => exact ⟨k + 1, by omega, by go_num, P8⟩
        case measure => simp [intOf]; omega
      · obtain rfl : k = l.length := by omega
        have hbl := T.out.bld
        rw [List.take_of_length_le (Nat.le_refl _), ← HBL.out] at hbl
        have HSt := mkHid (bld.str_some B B (bytesL l) wr hbl hn0.out)
        have hle := T.out.le
        have F := mkHid T.out.below
        clear T hbl
        go_wp2_with fail
        refine HSt.out.mono ?_
        rintro e w4 ⟨rfl, hb⟩
        have F2 := mkHid (F.out.trans (hb.mono hle))
        clear hb HSt
        go_wp2
        go_ret
        exact ⟨rfl, F2.out⟩
end Go.Proofs.YtmoojhnblakdhaaGreat.plc
namespace Go.Proofs.YtmoojhnblakdhaaGreat.plc
open Go.RowKit Go.Joins
open Go.Proofs.YtmoojhnblakdhaaGreat.base Go.Proofs.YtmoojhnblakdhaaGreat.blk Go.Proofs.YtmoojhnblakdhaaGreat.aid
open Go.Proofs.YtmoojhnblakdhaaGreat.row (Rd Own OwnV appSem app_fold)
open Go.Proofs.YtmoojhnblakdhaaGreat.rwPlace (cs el)
open Go.Proofs.YtmoojhnblakdhaaGreat.num (G tup)
set_option linter.unusedVariables false
set_option linter.unusedSimpArgs false
attribute [local go_sem ↓] app_fold

/-- so many places, one behind the other -/
def rcP (s : ByteArray) : Option (List Pl) :=
  match G s 0 with
  | .error _ => none
  | .ok (n, p) => if (runS s n.toNat (p.toNat, false) []).2.2 = true then none else some (runS s n.toNat (p.toNat, false) []).1
theorem implR_is (s : ByteArray) : implR s = match rcP s with | none => none | some l => if bytesP l = s then some l else none := by
  unfold implR rcP
  cases G s 0 with
  | error c => rfl
  | ok r =>
    obtain ⟨n, p⟩ := r
    simp only
    by_cases h : (runS s n.toNat (p.toNat, false) []).2.2 = true
    · simp [h]
    · simp [h]
/-- what readCounted answers and leaves -/
def RcPost (s : ByteArray) (w : World) (e : Ending) (w' : World) : Prop :=
  ((∃ T v, e = .returned (.tuple #[.slice none 0 0, .iface T v]) ∧ rcP s = none) ∨
   (∃ (a : Option Addr) (c : Nat) (r : List Pl), e = .returned (.tuple #[.slice a r.length c, .nilIface]) ∧ rcP s = some r ∧ r.length ≤ 1000 ∧ Small r ∧ w'.ownsRow w.heap.size 33 5 (.slice a r.length c) r.length (cs r))) ∧ Below w.heap.size w w'
/-- what holds on the way -/
structure Rj (w : World) (s : ByteArray) (N P k at_ : Nat) (acc : List Pl) (a : Option Addr) (c : Nat) (W : World) : Prop where
  run : runS s N (P, false) [] = runS s (N - k) (at_, false) acc
  len : acc.length = k
  le : k ≤ N
  far : 32 * k ≤ at_
  in_ : at_ ≤ s.size
  row : W.ownsRow w.heap.size 33 5 (.slice a k c) k (cs acc)
  below : Below w.heap.size w W
theorem below5r2 {w w1 : World} {g : Nat} (hb : Below w.heap.size w w1) (hg : w.heap.size ≤ g) (x0 x1 x2 x3 x4 : Value) : Below w.heap.size w (((((w1.setCell ⟨g, 0, none⟩ x0).setCell ⟨g, 1, none⟩ x1).setCell ⟨g, 2, none⟩ x2).setCell ⟨g, 3, none⟩ x3).setCell ⟨g, 4, none⟩ x4) := below5r hb hg x0 x1 x2 x3 x4
theorem grew5 (w : World) (X : Nat) (x0 x1 x2 x3 x4 : Value) : w.grownBy (((((w.setCell ⟨X, 0, none⟩ x0).setCell ⟨X, 1, none⟩ x1).setCell ⟨X, 2, none⟩ x2).setCell ⟨X, 3, none⟩ x3).setCell ⟨X, 4, none⟩ x4) (some X) :=
  grew_grew (grew_grew (grew_grew (grew_grew (grew_cell w X 0 x0) (grew_cell _ X 1 x1)) (grew_cell _ X 2 x2)) (grew_cell _ X 3 x3)) (grew_cell _ X 4 x4)
set_option maxRecDepth 100000 in
set_option maxHeartbeats 4000000 in
theorem rcP_any (s : ByteArray) (w : World) (hs : s.size ≤ 20000) :
    Calls Tryz.prog 33 #[.string s, .func (.func 34) #[] #[]] w (RcPost s w) := by
  have hsi : (s.size : Int) ≤ 20000 := by omega
  have HN := mkHid (fun wx => num.read_any s 0 wx hs (by simp))
  have HP := mkHid (fun at_ wx (h : at_ ≤ s.size) => readPlace_any s at_ wx hs h)
  cases hG : G s ((0 : Nat) : Int) with
  | error c =>
    rw [hG] at HN
    have hI := mkHid (show rcP s = none by
      unfold rcP
      have : G s 0 = .error c := hG
      rw [this])
    have F : Hid (∀ T v, RcPost s w (.returned (.tuple #[.slice none 0 0, .iface T v])) w) := mkHid (fun T v => ⟨.inl ⟨T, v, rfl, hI.out⟩, Below.refl _ _⟩)
    clear hG hI
    go_enter Tryz.func33, Tryz.ntmps33
    go_wp2_with fail
    refine (HN.out _).mono ?_
    rintro e w1 ⟨rfl, rfl⟩
    unfold tup
    go_wp2
    exact bodyPost_ret (v := .tuple #[.slice none 0 0, .iface 120 (.agg #[.int .i64 c])]) (by simp [results, Tryz.results33, go_sem]) rfl (F.out _ _)
  | ok r =>
    obtain ⟨z, p⟩ := r
    obtain ⟨P, rfl, _, hP, _⟩ := nbk.G_nat hG
    rw [hG] at HN
    have hPi : (P : Int) ≤ 20000 := by omega
    have hI := mkHid (show rcP s = if (runS s z.toNat (P, false) []).2.2 = true then none else some (runS s z.toNat (P, false) []).1 by
      unfold rcP
      have : G s 0 = .ok (z, (P : Int)) := hG
      rw [this]
      have e : ((P : Nat) : Int).toNat = P := by omega
      simp only [e])
    have S0 : Hid (Rj w s z.toNat P 0 P [] none 0 w) := mkHid ⟨rfl, rfl, Nat.zero_le _, by omega, hP, World.ownsRow_nil _ _ _ _, Below.refl _ _⟩
    clear hG
    go_enter Tryz.func33, Tryz.ntmps33
    go_wp2_with fail
    refine (HN.out _).mono ?_
    rintro e w1 ⟨rfl, rfl⟩
    unfold tup
    clear HN
    go_wp2_with fail
    go_loopw [7, 8, 9, 21] (fun at_ ev v i wr => ∃ (k at' : Nat) (acc : List Pl) (a : Option Addr) (c : Nat), i = .int .i64 k ∧ at_ = .int .i64 at' ∧ v = .slice a k c ∧ Hid (Rj w s z.toNat P k at' acc a c wr))
      (fun _ _ _ i _ => z.toNat - (intOf i).toNat)
    case atStart => exact ⟨0, P, [], none, 0, rfl, rfl, rfl, S0⟩
    case round =>
      obtain ⟨k, q, acc, a, c, rfl, rfl, rfl, S⟩ := hrel
      clear S0
      have hk := S.out.far
      have hq := S.out.in_
      by_cases hlt : (k : Int) < z
      · obtain ⟨m, hm⟩ : ∃ m, z.toNat - k = m + 1 := ⟨z.toNat - k - 1, by omega⟩
        have hki : (k : Int) ≤ 1000 := by omega
        have hqi : (q : Int) ≤ 20000 := by omega
        have hrun := S.out.run
        rw [hm, runS_step] at hrun
        have HR := mkHid hrun
        have hbx := mkHid (blk_new wr (.cells #[.string ⟨#[]⟩, .string ⟨#[]⟩, .int .i64 0, .int .i64 0, .int .i64 0] 33) wr.heap.size rfl)
        have HPx := mkHid (HP.out q (wr.alloc (.cells #[.string ⟨#[]⟩, .string ⟨#[]⟩, .int .i64 0, .int .i64 0, .int .i64 0] 33)) hq)
        clear hrun
        go_wp2_with fail
        refine HPx.out.mono ?_
        rintro e w1 ⟨⟨x0, x1, x2, x3, x4, q', hpl, rfl⟩ | ⟨hpl, TT, ev, rfl⟩, hb⟩
        · have hrun := HR.out
          rw [hpl] at hrun
          simp only at hrun
          obtain ⟨_, hq1, hq2, _, _, _⟩ := placeS_ok hpl
          simp only at hq1
          have hB0 := S.out.below.alloc S.out.below.size (.cells #[.string ⟨#[]⟩, .string ⟨#[]⟩, .int .i64 0, .int .i64 0, .int .i64 0] 33)
          have hrow0 := row_keep S.out.row (below_grew (below_alloc1 wr (.cells #[.string ⟨#[]⟩, .string ⟨#[]⟩, .int .i64 0, .int .i64 0, .int .i64 0] 33)) none) (fun _ _ e => by cases e)
          have hrow1 := row_keep hrow0 (below_grew hb none) (fun _ _ e => by cases e)
          have hB1 := below_trans hB0 hb
          have hX := S.out.below.size
          have hoff : ∀ g, (Value.slice a k c).ownBlock = some g → some wr.heap.size ≠ some g := fun g hg e => by
            have := (S.out.row.lt g hg).2
            cases e
            omega
          have hb1 := blk_below hbx.out hb
          obtain ⟨y0, y1, y2, y3, y4⟩ := cel5 hb1
          have uf := unfrozen hb1
          have hrow2 := row_keep hrow1 (grew5 w1 wr.heap.size (.string x0) (.string x1) (.int .i64 x2) (.int .i64 x3) (.int .i64 x4)) hoff
          have hB2 := below5r2 hB1 hX (.string x0) (.string x1) (.int .i64 x2) (.int .i64 x3) (.int .i64 x4)
          have hsz : (((((w1.setCell ⟨wr.heap.size, 0, none⟩ (.string x0)).setCell ⟨wr.heap.size, 1, none⟩ (.string x1)).setCell ⟨wr.heap.size, 2, none⟩ (.int .i64 x2)).setCell ⟨wr.heap.size, 3, none⟩ (.int .i64 x3)).setCell ⟨wr.heap.size, 4, none⟩ (.int .i64 x4)).heap.size = w1.heap.size := by simp
          obtain ⟨g', c', w2, happ, hown, hg⟩ := rwPlace.app (W := (((((w1.setCell ⟨wr.heap.size, 0, none⟩ (.string x0)).setCell ⟨wr.heap.size, 1, none⟩ (.string x1)).setCell ⟨wr.heap.size, 2, none⟩ (.int .i64 x2)).setCell ⟨wr.heap.size, 3, none⟩ (.int .i64 x3)).setCell ⟨wr.heap.size, 4, none⟩ (.int .i64 x4))) (base := w.heap.size) (.slice a k c) k acc x0 x1 x2 x3 x4 S.out.len hrow2 hB2.size (by omega)
          rw [hsz] at happ
          have hB3 := hB2.alloc hB2.size (.cells #[.string x0, .string x1, .int .i64 x2, .int .i64 x3, .int .i64 x4] 33)
          have N1 : Hid (Rj w s z.toNat P (k + 1) q' (acc ++ [(x0, x1, x2, x3, x4)]) (some ⟨g', 0, none⟩) c' w2) := mkHid ⟨by rw [hrun]; congr 1; omega, by rw [List.length_append, List.length_singleton, S.out.len], by omega, by omega, hq2, hown, hB3.grown hg hB3.size (fun j hj => (S.out.row.lt j hj).1)⟩
          clear hrow0 hrow1 hrow2 hB0 hB1 hB2 hB3 hb1 hoff hX hb hpl hsz hown hg hrun S HR HPx hbx
          go_wp2
          exact ⟨⟨k + 1, q', _, _, c', by go_num, rfl, rfl, N1⟩, by simp [intOf]; omega⟩
        · have hno : rcP s = none := by
            rw [hI.out, if_pos]
            rw [HR.out]
            generalize placeS s (q, false) = pr at *
            obtain ⟨pp, q', f⟩ := pr
            have hf : f = true := hpl
            subst hf
            rw [runS_bad]
          have hb1 := blk_below hbx.out hb
          obtain ⟨y0, y1, y2, y3, y4⟩ := cel5 hb1
          have uf := unfrozen hb1
          have hX := S.out.below.size
          have F : Hid (RcPost s w (.returned (.tuple #[.slice none 0 0, .iface TT ev])) _) := mkHid ⟨.inl ⟨TT, ev, rfl, hno⟩, below5r2 (below_trans (S.out.below.alloc S.out.below.size (.cells #[.string ⟨#[]⟩, .string ⟨#[]⟩, .int .i64 0, .int .i64 0, .int .i64 0] 33)) hb) hX (.string ⟨#[]⟩) (.string ⟨#[]⟩) (.int .i64 0) (.int .i64 0) (.int .i64 0)⟩
          clear S hb hpl HR hno hb1 hX HPx hbx
          go_wp2
          refine bodyPost_ret (v := .tuple #[.slice none 0 0, .iface TT ev]) ?_ rfl F.out
          simp [results, Tryz.results33, go_sem]
      · have hkN : z.toNat - k = 0 := by omega
        have hrun := S.out.run
        rw [hkN] at hrun
        have hrun2 : runS s z.toNat (P, false) [] = (acc, (q, false)) := hrun
        obtain ⟨m, hm1, hm2, _, _, hm3, _⟩ := runS_ok s z.toNat P [] acc q hrun2 hP
        simp only [List.nil_append] at hm1
        subst hm1
        have hlen := S.out.len
        have hge : ((z : Int) ≤ (acc.length : Int)) := by omega
        have hsm : Small acc := fun p hp => by have := hm3 p hp; omega
        subst hlen
        have F : Hid (RcPost s w (.returned (.tuple #[.slice a acc.length c, .nilIface])) wr) := mkHid ⟨.inr ⟨a, c, acc, rfl, by rw [hI.out, hrun2]; simp, by omega, hsm, S.out.row⟩, S.out.below⟩
        clear hI S hrun hrun2 hm3 hsm hm2 hkN
        go_wp2
        exact bodyPost_ret (v := .tuple #[.slice a acc.length c, .nilIface]) (by simp [results, Tryz.results33, go_sem]) rfl F.out
set_option maxRecDepth 100000 in
set_option maxHeartbeats 4000000 in
theorem readI_any (s : ByteArray) (w : World) (hs : s.size ≤ 1048576) :
    Calls Tryz.prog 9 #[.string s] w (AOwn w (readA s)) := by
  have hb0 := blk_new w zeroA w.heap.size rfl
  have HB0 := mkHid (below_alloc1 w zeroA)
  unfold zeroA at hb0 HB0
  obtain ⟨z0, z1⟩ := cel2 hb0
  have uf := unfrozen hb0
  have hsi : (s.size : Int) ≤ 1048576 := by omega
  by_cases h1 : 20000 < s.size
  · have F : Hid (AOwn w (readA s) _ _) := mkHid (aown_new (k := 2) (by unfold readA; rw [if_pos h1]))
    have h1i : (20000 : Int) < (s.size : Int) := by omega
    clear hb0 HB0 z0 z1 uf
    go_enter Tryz.func9, Tryz.ntmps9
    go_wp2
    refine bodyPost_ret (v := .agg #[.slice none 0 0, .int .i64 2]) ?_ rfl F.out
    simp [results, Tryz.results9, go_sem]
  have h1i : (s.size : Int) ≤ 20000 := by omega
  have HA := mkHid (agree s (by omega))
  rw [implR_is] at HA
  have HR := mkHid (rcP_any s (w.alloc (.cells #[.slice none 0 0, .int .i64 0] 29)) (by omega))
  have hbk := mkHid hb0
  clear z0 z1 uf hb0
  go_enter Tryz.func9, Tryz.ntmps9
  go_wp2_with fail
  refine HR.out.mono ?_
  rintro e w1 ⟨⟨TT, ev, rfl, hrc⟩ | ⟨a, c, r, rfl, hrc, hrl, hsm, hown⟩, hb⟩
  · have hB1 := below_trans HB0.out hb
    have hb1 := blk_below hbk.out hb
    obtain ⟨z0, z1⟩ := cel2 hb1
    have uf := unfrozen hb1
    have F : Hid (AOwn w (readA s) _ _) := mkHid (aown_no (k := 3) hB1 (by rw [HA.out, hrc]; rfl))
    clear hrc hb hB1 hb1 HA HR HB0 hbk
    go_wp2
    refine bodyPost_ret (v := .agg #[.slice none 0 0, .int .i64 3]) ?_ rfl F.out
    simp [results, Tryz.results9, go_sem, z0, z1]
  · have hw0 : (w.alloc (.cells #[.slice none 0 0, .int .i64 0] 29)).heap.size = w.heap.size + 1 := by simp
    rw [hw0] at hown
    have hro : Rd w1 a (cs r) := own_rd hown
    have HB := mkHid (bytesI_any a c r w1 (by omega) hsm hro)
    have hB1 := below_trans HB0.out hb
    have hb1 := blk_below hbk.out hb
    rw [hrc] at HA
    simp only at HA
    by_cases heq : bytesP r = s
    · rw [heq] at HB
      have hss : (s.toList == s.toList) = true := by simp
      rw [if_pos heq] at HA
      have HF := mkHid (fun w' (hb2 : Below w1.heap.size w1 w') => And.intro (And.intro (below_trans hB1 hb2) (blk_below hb1 hb2)) (row_keep hown (below_grew hb2 none) (fun _ _ e => by cases e)))
      clear hown hrc hro hb hB1 hb1 hsm heq
      go_wp2_with fail
      refine HB.out.mono ?_
      rintro e w2 ⟨rfl, hb⟩
      have F0 := HF.out _ hb
      obtain ⟨z0, z1⟩ := cel2 F0.1.2
      have uf := unfrozen F0.1.2
      have hE : readA s = (r, 0) := HA.out
      have F : Hid (AOwn w (readA s) _ _) := mkHid (aown_of (a' := a) (n := r.length) (c' := c) (k := 0) F0.1.1 (by rw [hE]) (by rw [hE]) (by rw [hE]; exact F0.2))
      clear hb HF HB F0 hE HA HR HB0 hbk
      go_wp2
      refine bodyPost_ret (v := .agg #[.slice a r.length c, .int .i64 0]) ?_ rfl F.out
      simp [results, Tryz.results9, go_sem, z0, z1]
    · have hss := strs.bytes_ne heq
      rw [if_neg heq] at HA
      have HF := mkHid (fun w' (hb2 : Below w1.heap.size w1 w') => And.intro (below_trans hB1 hb2) (blk_below hb1 hb2))
      clear hown hrc hro hb hB1 hb1 hsm heq
      generalize bytesP r = t at *
      go_wp2_with fail
      refine HB.out.mono ?_
      rintro e w2 ⟨rfl, hb⟩
      have F0 := HF.out _ hb
      obtain ⟨z0, z1⟩ := cel2 F0.2
      have uf := unfrozen F0.2
      have F : Hid (AOwn w (readA s) _ _) := mkHid (aown_no (k := 3) F0.1 HA.out)
      clear hb HF HB F0 HA HR HB0 hbk
      go_wp2
      refine bodyPost_ret (v := .agg #[.slice none 0 0, .int .i64 3]) ?_ rfl F.out
      simp [results, Tryz.results9, go_sem, z0, z1]
end Go.Proofs.YtmoojhnblakdhaaGreat.plc
