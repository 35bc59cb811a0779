/-
  What impl.readNums answers and leaves: numbers that stand one behind the other are read into the cells of one block. Conditions: a text of at most 20,000 bytes; the places that are handed in lie in another block than the cells.
-/
import Derived.Test.YtmmmadehifajlaaNumBk
import Derived.Test.YtmmmadehifajlaaGetR
import Derived.Test.YtmmmadehifajlaaCells
namespace Go.Proofs.Ytmmmadehifajlaa.rdn
open Go.RowKit Go.Joins
open Go.Proofs.Ytmmmadehifajlaa.base Go.Proofs.Ytmmmadehifajlaa.blk Go.Proofs.Ytmmmadehifajlaa.aid
open Go.Proofs.Ytmmmadehifajlaa.row (Rd)
open Go.Proofs.Ytmmmadehifajlaa.nbk (rdA rdA_ok rdA_err G_nat)
set_option linter.unusedVariables false

/-- these numbers lie in the cells from o on -/
def setL (w : World) (g o : Nat) (l : List Int) : World := l.foldl (fun (q : World × Nat) z => (q.1.setCell ⟨g, q.2, none⟩ (.int .i64 z), q.2 + 1)) (w, o) |>.1
theorem setL_nil (w : World) (g o : Nat) : setL w g o [] = w := rfl
theorem fold_snd : ∀ (l : List Int) (w : World) (g o : Nat), (l.foldl (fun (q : World × Nat) z => (q.1.setCell ⟨g, q.2, none⟩ (.int .i64 z), q.2 + 1)) (w, o)).2 = o + l.length
  | [], w, g, o => rfl
  | z :: l, w, g, o => by
    rw [List.foldl_cons, fold_snd l]
    simp only [List.length_cons]
    omega
theorem setL_snoc (w : World) (g o : Nat) (l : List Int) (z : Int) : setL w g o (l ++ [z]) = (setL w g o l).setCell ⟨g, o + l.length, none⟩ (.int .i64 z) := by
  unfold setL
  rw [List.foldl_append]
  simp only [List.foldl_cons, List.foldl_nil]
  rw [fold_snd]
theorem snoc_cases (l : List Int) : l = [] ∨ ∃ r z, l = r ++ [z] := by
  rcases List.eq_nil_or_concat l with h | ⟨r, z, h⟩
  · exact .inl h
  · exact .inr ⟨r, z, by simpa using h⟩
theorem setL_block (w : World) (g o : Nat) (l : List Int) (j : Nat) (hj : j ≠ g) : (setL w g o l).heap[j]? = w.heap[j]? := by
  induction h : l.length generalizing l with
  | zero =>
    have := List.eq_nil_of_length_eq_zero h
    subst this
    rfl
  | succ n ih =>
    rcases snoc_cases l with rfl | ⟨r, z, rfl⟩
    · cases h
    · rw [setL_snoc]
      exact (Below.heap_setCell _ ⟨g, o + r.length, none⟩ _ j hj).trans (ih r (by simpa using h))
theorem setL_cells (w : World) (g o : Nat) (l : List Int) (cs : Array Value) (T : TypeId) (hb : w.heap[g]? = some (.cells cs T)) : ∃ cs', (setL w g o l).heap[g]? = some (.cells cs' T) ∧ cs'.size = cs.size := by
  induction h : l.length generalizing l with
  | zero =>
    have := List.eq_nil_of_length_eq_zero h
    subst this
    exact ⟨cs, hb, rfl⟩
  | succ n ih =>
    rcases snoc_cases l with rfl | ⟨r, z, rfl⟩
    · cases h
    · obtain ⟨cs', h1, h2⟩ := ih r (by simpa using h)
      rw [setL_snoc]
      exact ⟨_, heap_setCell_same _ g (o + r.length) _ _ _ h1, by simpa using h2⟩
/-- the places of n cells from o on -/
def ptrL (g o n : Nat) : List Value := (List.range n).map (fun i => .pointer (some ⟨g, o + i, none⟩))
theorem ptrL_at (g o n i : Nat) (h : i < n) : (ptrL g o n)[i]? = some (.pointer (some ⟨g, o + i, none⟩)) := by simp [ptrL, h]
/-- what readNums answers: n numbers are read from p on -/
def NsPost (s : ByteArray) (n p : Nat) (w : World) (g o : Nat) (e : Ending) (w' : World) : Prop :=
  (∃ (q : Nat) (l : List Int), e = .returned (.tuple #[.int .i64 q, .nilIface]) ∧ rdA s n p [] = some (l, q) ∧ l.length = n ∧ q ≤ s.size ∧ w' = setL w g o l) ∨
  (∃ (T : TypeId) (v : Value) (l : List Int), e = .returned (.tuple #[.int .i64 0, .iface T v]) ∧ rdA s n p [] = none ∧ l.length ≤ n ∧ w' = setL w g o l)
set_option maxRecDepth 100000 in
set_option maxHeartbeats 2000000 in
theorem nums_any (s : ByteArray) (p hb n cap g o : Nat) (cs : Array Value) (T : TypeId) (w : World) (hs : s.size ≤ 20000) (hp : p ≤ s.size) (hn : n ≤ 100) (hr : Rd w (some ⟨hb, 0, none⟩) (ptrL g o n)) (hne : hb ≠ g) (hbl : w.heap[g]? = some (.cells cs T)) (hcs : o + n ≤ cs.size) :
    Calls Try.prog 69 #[.string s, .int .i64 (p : Int), .slice (some ⟨hb, 0, none⟩) n cap] w (NsPost s n p w g o) := by
  have HRd := mkHid (fun (p : Nat) wx (hp : (p : Int) ≤ 9223372036854775807) => num.read_any s p wx hs hp)
  have hs' : (s.size : Int) ≤ 20000 := by omega
  have hn' : (n : Int) ≤ 100 := by omega
  have HR := mkHid hr
  have HB := mkHid hbl
  clear hr hbl
  go_enter Try.func69, Try.ntmps69
  go_wp2
  go_loopw [1, 13] (fun a i wr => ∃ (k p' : Nat) (l : List Int), k ≤ n ∧ i = .int .i64 k ∧ a = .int .i64 p' ∧ p' ≤ s.size ∧ Hid (l.length = k ∧ rdA s n p [] = rdA s (n - k) p' l ∧ wr = setL w g o l))
    (fun _ i _ => n - (intOf i).toNat)
  case atStart => exact ⟨0, p, [], by omega, rfl, rfl, hp, mkHid ⟨rfl, rfl, rfl⟩⟩
  case round =>
    obtain ⟨k, p', l, hk, rfl, rfl, hp', hl⟩ := hrel
    have hpi : (p' : Int) ≤ 20000 := by omega
    by_cases hlt : k < n
    · have hki : (k : Int) < (n : Int) := by omega
      obtain ⟨b, off, e0, c0⟩ := HR.out k _ (ptrL_at g o n k hlt)
      simp at e0
      obtain ⟨rfl, rfl⟩ := e0
      have g0 : wr.cell? ⟨hb, k, none⟩ = some (.pointer (some ⟨g, o + k, none⟩)) := by
        rw [hl.out.2.2, World.cell?_of_block (w := w) (a := ⟨hb, k, none⟩) (setL_block w g o l hb hne)]
        simpa using c0
      obtain ⟨cs', hcb, hcz⟩ := setL_cells w g o l cs T HB.out
      rw [← hl.out.2.2] at hcb
      have e1 := unfrozen hcb
      have g1 : ∃ v, wr.cell? ⟨g, o + k, none⟩ = some v := by
        have h1 : o + k < cs'.size := by omega
        rw [cell_of_block hcb]
        exact ⟨_, Array.getElem?_eq_getElem h1⟩
      obtain ⟨g1v, g1⟩ := g1
      cases hq : num.G s p' with
      | error c =>
        have hN := mkHid (show rdA s n p [] = none by rw [hl.out.2.1, show n - k = (n - k - 1) + 1 by omega, rdA_err hq])
        have HW := mkHid (show wr.setCell ⟨g, o + k, none⟩ (.int .i64 0) = setL w g o (l ++ [0]) by rw [setL_snoc, hl.out.1, ← hl.out.2.2])
        have HL := mkHid (show (l ++ [(0 : Int)]).length ≤ n by simp; have := hl.out.1; omega)
        have HRd1 := HRd.out p' wr (by omega)
        rw [hq] at HRd1
        unfold num.tup at HRd1
        have HRd1 := mkHid HRd1
        clear HRd hl hq hcb c0 HR HB
        go_wp2_with fail
        refine HRd1.out.mono ?_
        rintro e w2 ⟨rfl, rfl⟩
        go_wp2
        refine bodyPost_ret (v := .tuple #[.int .i64 0, .iface 129 (.agg #[.int .i64 c])]) (by simp [results, Try.results69, go_sem]) rfl ?_
        exact .inr ⟨_, _, _, rfl, hN.out, HL.out, HW.out⟩
      | ok oo =>
        obtain ⟨z, q⟩ := oo
        obtain ⟨Q, rfl, hQ1, hQ2, _⟩ := G_nat hq
        have HRd1 := HRd.out p' wr (by omega)
        rw [hq] at HRd1
        unfold num.tup at HRd1
        have HRd1 := mkHid HRd1
        have N1 : Hid ((l ++ [z]).length = k + 1 ∧ rdA s n p [] = rdA s (n - (k + 1)) Q (l ++ [z]) ∧ wr.setCell ⟨g, o + k, none⟩ (.int .i64 z) = setL w g o (l ++ [z])) := mkHid ⟨by have := hl.out.1; simp; omega, by rw [hl.out.2.1, show n - k = (n - (k + 1)) + 1 by omega, rdA_ok hq], by rw [setL_snoc, hl.out.1, ← hl.out.2.2]⟩
        clear HRd hl hq hcb c0
        go_wp2_with fail
        refine HRd1.out.mono ?_
        rintro e w2 ⟨rfl, rfl⟩
        go_wp2
        go_roundw
        case rel => exact ⟨k + 1, Q, l ++ [z], by omega, by go_num, rfl, hQ2, N1⟩
        case measure => simp [intOf]; omega
    · obtain rfl : k = n := by omega
      have hN := mkHid (show rdA s k p [] = some (l, p') by rw [hl.out.2.1, Nat.sub_self]; rfl)
      have HL := mkHid hl.out.1
      have HW := mkHid hl.out.2.2
      clear hl HRd HR HB
      go_wp2
      refine bodyPost_ret (v := .tuple #[.int .i64 (p' : Int), .nilIface]) (by simp [results, Try.results69, go_sem]) rfl ?_
      exact .inl ⟨_, _, rfl, hN.out, HL.out, hp', HW.out⟩
end Go.Proofs.Ytmmmadehifajlaa.rdn
