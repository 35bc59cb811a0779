/-
  strings.Clone answers a text of the same bytes; of what was there nothing turns. Condition: the text has at most 1,048,576 bytes.
  What GetText answers, in plain words; that spec.GetText and impl.readText answer it. No condition.
  Reading places from a text, in plain words: what the specification reads, and that holding the bytes of what was read against the text tells the same. No condition.
  Reading back, in plain words: a number, a text, 32 bytes that stand at a place of a text are read there. Condition: a text of at most 20,000 bytes.
-/
import Derived.Test.YtmoojhnblakdhaaGreatRows
import Derived.Test.YtmoojhnblakdhaaGreatZGetO
import Derived.Test.YtmoojhnblakdhaaGreatZNumA
import Derived.WalkKit
import Derived.ProofKit
import Derived.Lib.Strings
import Derived.Lib.Walk
import Derived.Lib.BufferWrite
import Derived.Lib.UnsafeStr
import Derived.Laws.MakeOwn
import Derived.RegionTactic
namespace Go.Proofs.YtmoojhnblakdhaaGreat.clone
open Go.RowKit
set_option linter.unusedVariables false

theorem info5 : (Tryz.prog.info? 5).map (fun i => (i.zero, i.size, i.bytes)) = some (some (.int .u8 0), 1, 1) := by kernel_rfl
theorem size5 : (Tryz.prog.info? 5).map (·.size) = some 1 := by kernel_rfl
theorem cells5 : Tryz.prog.cellsOf 5 = 1 := by kernel_rfl

set_option maxRecDepth 100000 in
theorem copy_any (s : ByteArray) (w : World) (hs : s.size ≤ 1048576) :
    Calls Tryz.prog 79 #[.string s] w fun e w' => e = .returned (.string s) ∧ Below w.heap.size w w' := by
  rcases Nat.eq_zero_or_pos s.size with h0 | h0
  · obtain rfl : s = ⟨#[]⟩ := ByteArray.ext (Array.eq_empty_of_size_eq_zero h0)
    go_enter Tryz.func79, Tryz.ntmps79
    go_wp2
    go_ret
    exact ⟨rfl, Below.refl _ _⟩
  obtain ⟨i0, hi, hz0, hz1, hz2⟩ := info_parts info5
  have hl : s.size = s.data.toList.length := Lib.size_eq s
  obtain ⟨M, hM⟩ : ∃ M, M = madeCells #[.int .u8 0] s.size := ⟨_, rfl⟩
  have hMs : M.size = s.size := by rw [hM, size_madeCells]
  have hmk : ∀ u : World, (Instr.makeSlice 22 (.int .i64 (s.size : Int)) (.int .i64 (s.size : Int))).run Tryz.prog u =
      .ok (.slice (some ⟨u.heap.size, 0, none⟩) s.size s.size) (u.alloc (.cells M 5)) := fun u => by
    have h := run_make (P := Tryz.prog) u 22 5 i0 (.int .u8 0) Tryz.underlying22 hi hz0 .i64 .i64 (s.size : Int) (s.size : Int) (by omega) (Int.le_refl _) (by rw [hz2]; omega) (by omega)
    have e : (s.size : Int).toNat = s.size := by omega
    rw [e] at h
    rw [hM]
    simpa [hz1, Value.cells] using h
  have hcp := Lib.run_copy_row_string (P := Tryz.prog) (w.alloc (.cells M 5)) 22 9 3 5 w.heap.size 0 s.size s.size s M 5 Tryz.underlying22 size5 (heap_alloc_new w _) (Nat.le_refl _) (by omega)
  obtain ⟨Y, hY⟩ : ∃ Y, Y = (M.toList.take 0 ++ Lib.byteCells s.data.toList ++ M.toList.drop (0 + s.size)).toArray := ⟨_, rfl⟩
  rw [← hY] at hcp
  have hYl : Y.toList = Lib.byteCells s.data.toList := by
    rw [hY, List.toList_toArray, List.take_zero, List.nil_append, List.drop_of_length_le (by rw [Array.length_toList]; omega), List.append_nil]
  have hg : ((w.alloc (.cells M 5)).setRow w.heap.size Y).heap[w.heap.size]? = some (.cells Y 5 (0, 0)) := setRow_heap _ _ M _ 5 (0, 0) (heap_alloc_new w _)
  have hYs : Y.size = s.size := by rw [← Array.length_toList, hYl, Lib.byteCells_length, ← hl]
  have hne : s.data.toList ≠ [] := by
    intro e
    have h1 : s.size = 0 := by rw [hl, e]; rfl
    omega
  have hus := Lib.run_unsafeString_row (P := Tryz.prog) ((w.alloc (.cells M 5)).setRow w.heap.size Y) 92 3 9 5 Tryz.underlying92 cells5 w.heap.size Y.size (by unfold World.shape?; rw [hg]) s.data.toList hne (by omega) (by omega)
    (fun j x hx => Lib.cells_of_row hg Y.size j _ (by rw [List.take_of_length_le (by rw [Array.length_toList]; exact Nat.le_refl _), hYl]; simp [Lib.byteCells, hx]))
  rw [← hl] at hus
  have hb : Below w.heap.size w ((w.alloc (.cells M 5)).setRow w.heap.size Y) := ((Below.refl _ w).alloc (Nat.le_refl _) _).trans ⟨rfl, rfl, rfl, by simp, fun k hk => setRow_other _ _ _ _ (by omega)⟩
  have HB : Hid (Below w.heap.size w ((w.alloc (.cells M 5)).setRow w.heap.size Y)) := hb
  clear hb hY hM hl hne hYl hYs hMs hg
  go_enter Tryz.func79, Tryz.ntmps79
  go_wp2
  go_ret
  exact ⟨rfl, Lib.below_freeze HB.out (p := ⟨w.heap.size, 0, none⟩) (Nat.le_refl _) _⟩

theorem clone_any (s : ByteArray) (w : World) (hs : s.size ≤ 1048576) :
    Calls Tryz.prog 64 #[.string s] w fun e w' => e = .returned (.string s) ∧ Below w.heap.size w w' := by
  go_enter Tryz.func64, Tryz.ntmps64
  go_wp2_with (go_at_call 79; refine (copy_any s _ hs).mono ?_; rintro e w1 ⟨rfl, hb⟩)
  go_ret
  exact ⟨rfl, hb⟩

end Go.Proofs.YtmoojhnblakdhaaGreat.clone
namespace Go.Proofs.YtmoojhnblakdhaaGreat.num
open Go.RowKit
set_option linter.unusedVariables false

/-- what a text's bytes tell: a code, or the text and the place behind it -/
def T (s : ByteArray) (a : Int) : Except Int (ByteArray × Int) :=
  match G s a with
  | .error c => .error c
  | .ok (n, p) => if n < 0 ∨ 20000 < n then .error 3 else if (s.size : Int) - n < p then .error 4 else .ok (s.extract p.toNat (p + n).toNat, p + n)

def tout : Except Int (ByteArray × Int) → Value
  | .error c => .agg #[.string ⟨#[]⟩, .int .i64 0, .int .i64 c]
  | .ok (t, p) => .agg #[.string t, .int .i64 p, .int .i64 0]

theorem rd_pos : ∀ (l : List UInt8) (j u v k : Nat), rd l j u = .ok (v, k) → j < k ∧ k ≤ j + l.length := by
  intro l
  induction l with
  | nil => intro j u v k h; simp [rd] at h
  | cons c r ih =>
    intro j u v k h
    rw [rd] at h
    split at h
    · cases h
    · split at h
      · split at h
        · cases h
        · simp only [Except.ok.injEq, Prod.mk.injEq] at h
          simp
          omega
      · have := ih _ _ _ _ h
        simp
        omega

/-- of a number that is read: its place, and that there is no more than the text -/
theorem G_pos {s : ByteArray} {a n p : Int} (h : G s a = .ok (n, p)) : s.size ≤ 20000 ∧ 0 ≤ a ∧ a < p ∧ p ≤ (s.size : Int) := by
  unfold G at h
  split at h
  · cases h
  · split at h
    · cases h
    · split at h
      · cases h
      · rename_i u k hr
        simp only [Except.ok.injEq, Prod.mk.injEq] at h
        have hp := rd_pos _ _ _ _ _ hr
        have hl : s.data.toList.length = s.size := by rw [Array.length_toList]; rfl
        rw [List.length_drop, hl] at hp
        omega

/-- a code that is told is not 0 -/
theorem rd_code : ∀ (l : List UInt8) (j u : Nat) (c : Int), rd l j u = .error c → c = 3 ∨ c = 4 := by
  intro l
  induction l with
  | nil => intro j u c h; simp [rd] at h; omega
  | cons b r ih =>
    intro j u c h
    rw [rd] at h
    split at h
    · simp at h; omega
    · split at h
      · split at h
        · simp at h; omega
        · cases h
      · exact ih _ _ _ h
theorem G_code {s : ByteArray} {a c : Int} (h : G s a = .error c) : 1 ≤ c ∧ c ≤ 4 := by
  unfold G at h
  split at h
  · simp at h; omega
  · split at h
    · simp at h; omega
    · split at h
      · rename_i c' hr
        simp only [Except.error.injEq] at h
        have := rd_code _ _ _ _ hr
        omega
      · cases h
theorem T_err {s : ByteArray} {a c : Int} (h : G s a = .error c) : T s a = .error c := by unfold T; rw [h]
theorem T_three {s : ByteArray} {a n p : Int} (h : G s a = .ok (n, p)) (hn : n < 0 ∨ 20000 < n) : T s a = .error 3 := by unfold T; rw [h]; simp only; rw [if_pos hn]
theorem T_four {s : ByteArray} {a n p : Int} (h : G s a = .ok (n, p)) (hn : ¬ (n < 0 ∨ 20000 < n)) (hp : (s.size : Int) - n < p) : T s a = .error 4 := by unfold T; rw [h]; simp only; rw [if_neg hn, if_pos hp]
theorem T_ok {s : ByteArray} {a n p : Int} (h : G s a = .ok (n, p)) (hn : ¬ (n < 0 ∨ 20000 < n)) (hp : ¬ (s.size : Int) - n < p) : T s a = .ok (s.extract p.toNat (p + n).toNat, p + n) := by unfold T; rw [h]; simp only; rw [if_neg hn, if_neg hp]

end Go.Proofs.YtmoojhnblakdhaaGreat.num
namespace Go.Proofs.YtmoojhnblakdhaaGreat.plc
open Go.RowKit Go.Joins
open Go.Proofs.YtmoojhnblakdhaaGreat.base Go.Proofs.YtmoojhnblakdhaaGreat.blk Go.Proofs.YtmoojhnblakdhaaGreat.aid
open Go.Proofs.YtmoojhnblakdhaaGreat.num (G T G_pos)
set_option linter.unusedVariables false
set_option linter.unusedSimpArgs false

/-- a place and whether something was wrong -/
abbrev St : Type := Nat × Bool
def numS (s : ByteArray) (st : St) : Int × St := if st.2 = true then (0, st) else match G s st.1 with | .error _ => (0, (st.1, true)) | .ok (n, p) => (n, (p.toNat, false))
def txtS (s : ByteArray) (st : St) : ByteArray × St := if st.2 = true then (⟨#[]⟩, st) else match T s st.1 with | .error _ => (⟨#[]⟩, (st.1, true)) | .ok (t, p) => (t, (p.toNat, false))
def bytS (s : ByteArray) (st : St) : ByteArray × St := if st.2 = true ∨ s.size < st.1 + 32 then (⟨#[]⟩, (st.1, true)) else (s.extract st.1 (st.1 + 32), (st.1 + 32, false))
def placeS (s : ByteArray) (st : St) : Pl × St :=
  (((bytS s st).1, (txtS s (bytS s st).2).1, (numS s (txtS s (bytS s st).2).2).1, (numS s (numS s (txtS s (bytS s st).2).2).2).1, (numS s (numS s (numS s (txtS s (bytS s st).2).2).2).2).1), (numS s (numS s (numS s (txtS s (bytS s st).2).2).2).2).2)
def runS (s : ByteArray) : Nat → St → List Pl → List Pl × St
  | 0, st, l => (l, st)
  | n + 1, st, l => if st.2 = true then (l, st) else runS s n (placeS s st).2 (l ++ [(placeS s st).1])
/-- what PlacesRead answers -/
def fin (s : ByteArray) (r : List Pl × St) : List Pl × Int := if r.2.2 = true ∨ r.2.1 < s.size ∨ placesB r.1 = false then ([], 3) else (r.1, 0)
def readA (s : ByteArray) : List Pl × Int :=
  if 20000 < s.size then ([], 2) else fin s (runS s (numS s (0, false)).1.toNat ((numS s (0, false)).2.1, (numS s (0, false)).2.2 || decide ((numS s (0, false)).1 < 0) || decide (300 < (numS s (0, false)).1)) [])
theorem runS_bad (s : ByteArray) (n a : Nat) (l : List Pl) : runS s n (a, true) l = (l, (a, true)) := by
  cases n <;> simp [runS]
theorem runS_step (s : ByteArray) (n a : Nat) (l : List Pl) : runS s (n + 1) (a, false) l = runS s n (placeS s (a, false)).2 (l ++ [(placeS s (a, false)).1]) := by simp [runS]
theorem numS_bad (s : ByteArray) (a : Nat) : numS s (a, true) = (0, (a, true)) := by simp [numS]
theorem txtS_bad (s : ByteArray) (a : Nat) : txtS s (a, true) = (⟨#[]⟩, (a, true)) := by simp [txtS]
theorem numS_ok {s : ByteArray} {st : St} {n : Int} {q : Nat} (h : numS s st = (n, (q, false))) : st.2 = false ∧ G s st.1 = .ok (n, (q : Int)) ∧ st.1 < q ∧ q ≤ s.size ∧ (0 ≤ n → s.extract st.1 q = nbk.numB n) := by
  obtain ⟨a, f⟩ := st
  cases f with
  | true => rw [numS_bad] at h; cases h
  | false =>
    unfold numS at h
    simp only [Bool.false_eq_true, if_false] at h
    cases hG : G s (a : Int) with
    | error c => rw [hG] at h; cases h
    | ok r =>
      obtain ⟨n', p⟩ := r
      rw [hG] at h
      obtain ⟨P, rfl, h1, h2, h3⟩ := nbk.G_nat hG
      simp only [Prod.mk.injEq, and_true] at h
      obtain ⟨rfl, h4⟩ := h
      have e : P = q := by omega
      subst e
      exact ⟨rfl, rfl, h1, h2, h3⟩
theorem txtS_ok {s t : ByteArray} {st : St} {q : Nat} (h : txtS s st = (t, (q, false))) : st.2 = false ∧ T s st.1 = .ok (t, (q : Int)) ∧ st.1 ≤ q ∧ q ≤ s.size ∧ s.extract st.1 q = fnExactPutText.pre t.size ++ t := by
  obtain ⟨a, f⟩ := st
  cases f with
  | true => rw [txtS_bad] at h; cases h
  | false =>
    unfold txtS at h
    simp only [Bool.false_eq_true, if_false] at h
    cases hT : T s (a : Int) with
    | error c => rw [hT] at h; cases h
    | ok r =>
      obtain ⟨t', p⟩ := r
      rw [hT] at h
      simp only [Prod.mk.injEq, and_true] at h
      obtain ⟨rfl, h4⟩ := h
      have hT2 := hT
      unfold T at hT
      cases hG : G s (a : Int) with
      | error c => rw [hG] at hT; cases hT
      | ok r =>
        obtain ⟨n, p'⟩ := r
        rw [hG] at hT
        obtain ⟨P, rfl, h1, h2, h3⟩ := nbk.G_nat hG
        simp only at hT
        split at hT
        · cases hT
        · rename_i hn
          split at hT
          · cases hT
          · rename_i hp
            simp only [Except.ok.injEq, Prod.mk.injEq] at hT
            obtain ⟨e1, e2⟩ := hT
            have h0 : 0 ≤ n := by omega
            obtain ⟨N, rfl⟩ := Int.eq_ofNat_of_zero_le h0
            have e3 : q = P + N := by omega
            subst e3
            have e4 : ((P : Int) + (N : Int)).toNat = P + N := by omega
            have e5 : (P : Int).toNat = P := by omega
            rw [e4, e5] at e1
            have hsz : t'.size = N := by rw [← e1, ByteArray.size_extract]; omega
            have hpe : fnExactPutText.pre N = nbk.numB (N : Int) := by
              unfold fnExactPutText.pre nbk.numB
              simp
            refine ⟨rfl, by rw [← e2]; rfl, by omega, by omega, ?_⟩
            rw [hsz, hpe, ← h3 h0, ← e1]
            exact (nbk.cat s (by omega) (by omega)).symm
theorem bytS_ok {s k : ByteArray} {st : St} {q : Nat} (h : bytS s st = (k, (q, false))) : st.2 = false ∧ q = st.1 + 32 ∧ q ≤ s.size ∧ k = s.extract st.1 q := by
  unfold bytS at h
  split at h
  · cases h
  · rename_i hn
    rw [not_or] at hn
    simp only [Prod.mk.injEq, and_true] at h
    obtain ⟨h1, h2⟩ := h
    obtain ⟨a, f⟩ := st
    simp only at *
    cases f with
    | true => simp at hn
    | false => exact ⟨rfl, h2.symm, by omega, by rw [← h2]; exact h1.symm⟩
theorem placeS_ok {s : ByteArray} {st : St} {p : Pl} {q : Nat} (h : placeS s st = (p, (q, false))) : st.2 = false ∧ st.1 + 32 ≤ q ∧ q ≤ s.size ∧ p.1.size ≤ s.size ∧ p.2.1.size ≤ s.size ∧ (plB p = true → s.extract st.1 q = recP p) := by
  unfold placeS at h
  simp only [Prod.mk.injEq] at h
  obtain ⟨h0, h5⟩ := h
  obtain ⟨n3, z3⟩ : ∃ n3, numS s (numS s (numS s (txtS s (bytS s st).2).2).2).2 = (n3, (q, false)) := ⟨_, Prod.ext rfl h5⟩
  obtain ⟨b1, _, b2, b3, b4⟩ := numS_ok z3
  obtain ⟨n2, z2⟩ : ∃ n2, numS s (numS s (txtS s (bytS s st).2).2).2 = (n2, ((numS s (numS s (txtS s (bytS s st).2).2).2).2.1, false)) := ⟨_, Prod.ext rfl (Prod.ext rfl b1)⟩
  obtain ⟨c1, _, c2, c3, c4⟩ := numS_ok z2
  obtain ⟨n1, z1⟩ : ∃ n1, numS s (txtS s (bytS s st).2).2 = (n1, ((numS s (txtS s (bytS s st).2).2).2.1, false)) := ⟨_, Prod.ext rfl (Prod.ext rfl c1)⟩
  obtain ⟨d1, _, d2, d3, d4⟩ := numS_ok z1
  obtain ⟨t, zt⟩ : ∃ t, txtS s (bytS s st).2 = (t, ((txtS s (bytS s st).2).2.1, false)) := ⟨_, Prod.ext rfl (Prod.ext rfl d1)⟩
  obtain ⟨e1, _, e2, e3, e4⟩ := txtS_ok zt
  obtain ⟨k, zk⟩ : ∃ k, bytS s st = (k, ((bytS s st).2.1, false)) := ⟨_, Prod.ext rfl (Prod.ext rfl e1)⟩
  obtain ⟨f1, f2, f3, f4⟩ := bytS_ok zk
  have g3 := congrArg Prod.fst z3
  have g2 := congrArg Prod.fst z2
  have g1 := congrArg Prod.fst z1
  have gt := congrArg Prod.fst zt
  have gk := congrArg Prod.fst zk
  simp only at g3 g2 g1 gt gk
  rw [g3, g2, g1, gt, gk] at h0
  subst h0
  generalize hA : (bytS s st).2.1 = A at *
  generalize hB : (txtS s (bytS s st).2).2.1 = B at *
  generalize hC : (numS s (txtS s (bytS s st).2).2).2.1 = C at *
  generalize hD : (numS s (numS s (txtS s (bytS s st).2).2).2).2.1 = D at *
  refine ⟨f1, by omega, b3, by show k.size ≤ s.size; rw [f4, ByteArray.size_extract]; omega, ?_, fun hp => ?_⟩
  · have := congrArg ByteArray.size e4
    rw [ByteArray.size_extract, ByteArray.size_append] at this
    show t.size ≤ s.size
    omega
  · obtain ⟨_, _, p3, _, p5, _, p7, _⟩ := plB_small hp
    simp only at p3 p5 p7
    unfold recP
    simp only
    rw [f4, ← e4, ← d4 p3, ← c4 p5, ← b4 p7]
    rw [nbk.cat s (by omega) (by omega), nbk.cat s (by omega) (by omega), nbk.cat s (by omega) (by omega), nbk.cat s (by omega) (by omega)]
/-- what a run reads -/
theorem runS_ok (s : ByteArray) : ∀ (n a : Nat) (l r : List Pl) (q : Nat), runS s n (a, false) l = (r, (q, false)) → a ≤ s.size → ∃ m, r = l ++ m ∧ m.length = n ∧ a + 32 * n ≤ q ∧ q ≤ s.size ∧ (∀ p ∈ m, p.1.size ≤ s.size ∧ p.2.1.size ≤ s.size) ∧ ((∀ p ∈ m, plB p = true) → (s.extract a q).data.toList = recsP m)
  | 0, a, l, r, q, h, ha => by
    simp only [runS, Prod.mk.injEq, and_true] at h
    obtain ⟨rfl, rfl⟩ := h
    exact ⟨[], by simp, rfl, by omega, ha, by simp, fun _ => by simp [recsP]⟩
  | n + 1, a, l, r, q, h, ha => by
    rw [runS_step] at h
    cases hp : placeS s (a, false) with
    | mk p st =>
      obtain ⟨b, f⟩ := st
      rw [hp] at h
      simp only at h
      cases f with
      | true => rw [runS_bad] at h; cases h
      | false =>
        obtain ⟨_, h2, h3, h4, h5, h6⟩ := placeS_ok hp
        simp only at h2 h6
        obtain ⟨m, e1, e2, e3, e4, e5, e6⟩ := runS_ok s n b _ r q h h3
        refine ⟨p :: m, by rw [e1, List.append_assoc]; rfl, by simp [e2], by omega, e4, ?_, fun hm => ?_⟩
        · intro x hx
          rcases List.mem_cons.1 hx with rfl | hx
          · exact ⟨h4, h5⟩
          · exact e5 x hx
        · have h7 := h6 (hm p (by simp))
          have h8 := e6 (fun x hx => hm x (List.mem_cons_of_mem _ hx))
          rw [← nbk.cat s (show a ≤ b by omega) (show b ≤ q by omega), app_list, h8, h7]
          simp [recsP]
/-- what the program tells: nothing, or places whose bytes are the text -/
def implR (s : ByteArray) : Option (List Pl) :=
  match G s 0 with
  | .error _ => none
  | .ok (n, p) => if (runS s n.toNat (p.toNat, false) []).2.2 = true then none else if bytesP (runS s n.toNat (p.toNat, false) []).1 = s then some (runS s n.toNat (p.toNat, false) []).1 else none
def outA (o : Option (List Pl)) : List Pl × Int := match o with | none => ([], 3) | some l => (l, 0)
theorem eq_of_list {a b : ByteArray} (h : a.data.toList = b.data.toList) : a = b := ByteArray.ext (Array.toList_inj.1 h)
theorem agree (s : ByteArray) (hs : s.size ≤ 20000) : readA s = outA (implR s) := by
  unfold readA
  rw [if_neg (by omega)]
  unfold implR
  cases hG : G s 0 with
  | error c =>
    have e : numS s (0, false) = (0, (0, true)) := by
      unfold numS
      have : G s ((0 : Nat) : Int) = .error c := hG
      simp only [Bool.false_eq_true, if_false, this]
    simp only [e, Bool.true_or]
    rw [runS_bad]
    simp [fin, outA]
  | ok r =>
    obtain ⟨n, p⟩ := r
    have hG' : G s ((0 : Nat) : Int) = .ok (n, p) := hG
    have e : numS s (0, false) = (n, (p.toNat, false)) := by
      unfold numS
      simp only [Bool.false_eq_true, if_false, hG']
    obtain ⟨P, rfl, h1, h2, h3⟩ := nbk.G_nat hG'
    simp only [e, Bool.false_or]
    have eP : (P : Int).toNat = P := by omega
    rw [eP]
    by_cases hb : n < 0 ∨ 300 < n
    · have hb2 : (decide (n < 0) || decide (300 < n)) = true := by simpa using hb
      rw [hb2, runS_bad]
      have : (fin s ([], (P, true))) = ([], 3) := by simp [fin]
      rw [this]
      split
      · rfl
      · rename_i hf
        have hne : ¬ bytesP (runS s n.toNat (P, false) []).1 = s := by
          intro hbs
          cases hr : runS s n.toNat (P, false) [] with
          | mk r st =>
            obtain ⟨q, f⟩ := st
            rw [hr] at hf hbs
            simp only at hf hbs
            cases f with
            | true => exact absurd rfl hf
            | false =>
              obtain ⟨m, e1, e2, _⟩ := runS_ok s n.toNat P [] r q hr h2
              simp at e1
              subst e1
              rcases hb with hb | hb
              · have h0 : r = [] := List.eq_nil_of_length_eq_zero (by omega)
                subst h0
                have hs0 : s = ⟨#[0]⟩ := by
                  rw [← hbs]
                  decide +kernel
                have : G (⟨#[0]⟩ : ByteArray) 0 = .ok (0, 1) := by rfl
                rw [hs0, this] at hG
                simp only [Except.ok.injEq, Prod.mk.injEq] at hG
                omega
              · have hno : placesB r = false := by
                  cases hp : placesB r with
                  | false => rfl
                  | true => have := ((placesB_iff r).1 hp).1; omega
                unfold bytesP at hbs
                rw [if_neg (by rw [hno]; simp)] at hbs
                have := congrArg ByteArray.size hbs
                have h0 : (⟨#[]⟩ : ByteArray).size = 0 := rfl
                rw [h0] at this
                omega
        rw [if_neg hne]
        rfl
    · have hb2 : (decide (n < 0) || decide (300 < n)) = false := by simpa using hb
      rw [hb2]
      cases hr : runS s n.toNat (P, false) [] with
      | mk r st =>
        obtain ⟨q, f⟩ := st
        cases f with
        | true => simp [fin, outA]
        | false =>
          obtain ⟨m, e1, e2, e3, e4, _, e6⟩ := runS_ok s n.toNat P [] r q hr h2
          simp at e1
          subst e1
          have hn : n = (r.length : Int) := by omega
          have key : placesB r = true → bytesP r = s.extract 0 q := fun hp => by
            have h5 := e6 ((placesB_iff r).1 hp).2.2
            have h6 := h3 (by omega)
            unfold bytesP
            rw [if_pos hp]
            apply eq_of_list
            rw [← nbk.cat s (Nat.zero_le P) (show P ≤ q by omega), app_list, h5, h6, hn]
            simp [bytesL]
          simp only [fin, Bool.false_eq_true, false_or, if_false]
          by_cases hp : placesB r = true
          · have hk := key hp
            by_cases hq : q < s.size
            · have hne : ¬ bytesP r = s := by
                intro hbs
                rw [hk] at hbs
                have := congrArg ByteArray.size hbs
                rw [ByteArray.size_extract] at this
                omega
              rw [if_pos (.inl hq), if_neg hne]
              rfl
            · have hqs : q = s.size := by omega
              have hbs : bytesP r = s := by
                rw [hk, hqs]
                apply eq_of_list
                simp
              rw [if_neg (by rw [hp]; simp; omega), if_pos hbs]
              rfl
          · have hp2 : placesB r = false := by simpa using hp
            have hne : ¬ bytesP r = s := by
              intro hbs
              unfold bytesP at hbs
              rw [if_neg hp] at hbs
              have := congrArg ByteArray.size hbs
              have h0 : (⟨#[]⟩ : ByteArray).size = 0 := rfl
              rw [h0] at this
              omega
            rw [if_pos (.inr hp2), if_neg hne]
            rfl
theorem readA_small (s : ByteArray) : (readA s).1.length ≤ 300 := by
  unfold readA
  split
  · simp
  · unfold fin
    split
    · simp
    · rename_i h
      simp only [not_or] at h
      have := h.2.2
      simp only [Bool.not_eq_false] at this
      exact ((placesB_iff _).1 this).1
end Go.Proofs.YtmoojhnblakdhaaGreat.plc
namespace Go.Proofs.YtmoojhnblakdhaaGreat.rbk
open Go.RowKit
open Go.Proofs.YtmoojhnblakdhaaGreat.base
open Go.Proofs.YtmoojhnblakdhaaGreat.num (rd unfold G T)
open Go.Proofs.YtmoojhnblakdhaaGreat.plc (St numS txtS bytS)
set_option linter.unusedVariables false

theorem pow9 {u j : Nat} (h : u * 128 ^ j < 18446744073709551616) (h9 : j = 9) : u < 2 := by
  subst h9
  have e : (128 : Nat) ^ 9 = 9223372036854775808 := by decide +kernel
  rw [e] at h
  omega
theorem byte_small {u : Nat} (h : u < 256) : (UInt8.ofNat u).toNat = u := by
  rw [UInt8.toNat_ofNat']
  omega
theorem next_le {u j : Nat} (h : u * 128 ^ j < 18446744073709551616) : u / 128 * 128 ^ (j + 1) < 18446744073709551616 := by
  have e : u / 128 * 128 ^ (j + 1) = 128 * (u / 128) * 128 ^ j := by
    rw [Nat.pow_succ, Nat.mul_comm (128 ^ j) 128, ← Nat.mul_assoc, Nat.mul_comm (u / 128) 128]
  have k : 128 * (u / 128) * 128 ^ j ≤ u * 128 ^ j := Nat.mul_le_mul_right _ (Nat.mul_div_le u 128)
  omega
/-- the bytes of a number, read, tell it, whatever stands behind them -/
theorem rd_num : ∀ (u j v : Nat) (rest : List UInt8), u * 128 ^ j < 18446744073709551616 → (0 < j → 0 < u) → rd (num u ++ rest) j v = .ok (v + u * 128 ^ j, j + (num u).length) := by
  intro u
  induction u using Nat.strongRecOn with
  | _ u ih =>
    intro j v rest hb hp
    have h9 := pow9 hb
    rcases Nat.lt_or_ge u 128 with h | h
    · rw [num_small h]
      have e : [UInt8.ofNat u] ++ rest = UInt8.ofNat u :: rest := rfl
      rw [e, rd, byte_small (by omega), if_neg (by omega), if_pos h, if_neg (by omega)]
      rfl
    · rw [num_big h]
      have e : (UInt8.ofNat (u % 128 + 128) :: num (u / 128)) ++ rest = UInt8.ofNat (u % 128 + 128) :: (num (u / 128) ++ rest) := rfl
      rw [e, rd, byte_small (by omega), if_neg (by omega), if_neg (by omega), ih (u / 128) (by omega) (j + 1) _ rest (next_le hb) (by omega)]
      have e1 : (u % 128 + 128) % 128 = u % 128 := by omega
      have e2 : u / 128 * 128 ^ (j + 1) = 128 * (u / 128) * 128 ^ j := by
        rw [Nat.pow_succ, Nat.mul_comm (128 ^ j) 128, ← Nat.mul_assoc, Nat.mul_comm (u / 128) 128]
      have e3 : u % 128 * 128 ^ j + 128 * (u / 128) * 128 ^ j = u * 128 ^ j := by rw [← Nat.add_mul, Nat.mod_add_div]
      rw [e1, e2, Nat.add_assoc, e3]
      simp only [List.length_cons]
      have e4 : j + 1 + (num (u / 128)).length = j + ((num (u / 128)).length + 1) := by omega
      rw [e4]
theorem numB_list (k : Int) : (nbk.numB k).data.toList = num (2 * k.toNat) := by simp [nbk.numB]
theorem size_list (s : ByteArray) : s.data.toList.length = s.size := by rw [Array.length_toList]; rfl
theorem drop_len {s : ByteArray} {a : Nat} {xs rest : List UInt8} (h : s.data.toList.drop a = xs ++ rest) (hx : 0 < xs.length) : a + xs.length ≤ s.size := by
  have := congrArg List.length h
  rw [List.length_drop, size_list, List.length_append] at this
  omega
/-- a number is read -/
theorem G_back {s : ByteArray} {a : Nat} {k : Int} {rest : List UInt8} (hs : s.size ≤ 20000) (hk : 0 ≤ k) (hk2 : k ≤ 1000000000) (h : s.data.toList.drop a = (nbk.numB k).data.toList ++ rest) : G s (a : Int) = .ok (k, ((a + (nbk.numB k).data.toList.length : Nat) : Int)) := by
  rw [numB_list] at h ⊢
  have hr := rd_num (2 * k.toNat) 0 0 rest (by simp; omega) (by omega)
  rw [← h] at hr
  have g := num.G_ok (a := a) hs hr
  rw [g]
  congr 2
  · unfold num.unfold
    have e : 0 + 2 * k.toNat * 128 ^ 0 = 2 * k.toNat := by simp
    rw [e, if_neg (by omega)]
    omega
  · omega
theorem num_back {s : ByteArray} {a : Nat} {k : Int} {rest : List UInt8} (hs : s.size ≤ 20000) (hk : 0 ≤ k) (hk2 : k ≤ 1000000000) (h : s.data.toList.drop a = (nbk.numB k).data.toList ++ rest) : numS s (a, false) = (k, (a + (nbk.numB k).data.toList.length, false)) := by
  have g := G_back hs hk hk2 h
  unfold plc.numS
  simp only [Bool.false_eq_true, if_false, g]
  have e : ((a + (nbk.numB k).data.toList.length : Nat) : Int).toNat = a + (nbk.numB k).data.toList.length := by omega
  rw [e]
theorem pre_is (n : Nat) : fnExactPutText.pre n = nbk.numB (n : Int) := by
  unfold fnExactPutText.pre nbk.numB
  simp
theorem drop_more {s : ByteArray} {a : Nat} {xs rest : List UInt8} (h : s.data.toList.drop a = xs ++ rest) : s.data.toList.drop (a + xs.length) = rest := by
  rw [← List.drop_drop, h, List.drop_left]
theorem ext_list (s : ByteArray) (a n : Nat) : (s.extract a (a + n)).data.toList = (s.data.toList.drop a).take n := by
  simp [List.extract_eq_take_drop]
/-- a text is read -/
theorem txt_back {s t : ByteArray} {a : Nat} {rest : List UInt8} (hs : s.size ≤ 20000) (h : s.data.toList.drop a = (fnExactPutText.pre t.size ++ t).data.toList ++ rest) : txtS s (a, false) = (t, (a + (fnExactPutText.pre t.size ++ t).data.toList.length, false)) := by
  have e1 : (fnExactPutText.pre t.size ++ t).data.toList = (nbk.numB (t.size : Int)).data.toList ++ t.data.toList := by rw [pre_is]; exact plc.app_list _ _
  rw [e1] at h ⊢
  have hpos : 0 < ((nbk.numB (t.size : Int)).data.toList ++ t.data.toList).length := by
    rw [List.length_append, numB_list]
    have := nbk.num_pos (2 * (t.size : Int).toNat)
    omega
  have hl := drop_len h hpos
  rw [List.length_append, size_list t] at hl
  have h' := h
  rw [List.append_assoc] at h'
  have g := G_back hs (by omega) (by omega) h'
  have hd := drop_more h'
  rw [List.length_append, size_list t]
  generalize (nbk.numB (t.size : Int)).data.toList.length = L at *
  have hT : T s (a : Int) = .ok (t, ((a + L + t.size : Nat) : Int)) := by
    unfold num.T
    rw [g]
    simp only
    rw [if_neg (by omega), if_neg (by omega)]
    have e2 : ((a + L : Nat) : Int).toNat = a + L := by omega
    have e3 : (((a + L : Nat) : Int) + (t.size : Int)).toNat = a + L + t.size := by omega
    rw [e2, e3]
    congr 2
    apply ByteArray.ext
    apply Array.toList_inj.1
    rw [ext_list, hd, ← size_list t, List.take_left]
  unfold plc.txtS
  simp only [Bool.false_eq_true, if_false, hT]
  have e4 : ((a + L + t.size : Nat) : Int).toNat = a + L + t.size := by omega
  rw [e4, Nat.add_assoc]
/-- 32 bytes are read -/
theorem byt_back {s t : ByteArray} {a : Nat} {rest : List UInt8} (ht : t.size = 32) (h : s.data.toList.drop a = t.data.toList ++ rest) : bytS s (a, false) = (t, (a + 32, false)) := by
  have hl := drop_len h (by rw [size_list]; omega)
  rw [size_list, ht] at hl
  unfold plc.bytS
  rw [if_neg (by simp; omega)]
  congr 1
  apply ByteArray.ext
  apply Array.toList_inj.1
  rw [ext_list, h]
  have : t.data.toList.length = 32 := by rw [size_list, ht]
  rw [← this, List.take_left]
theorem bytS_bad (s : ByteArray) (a : Nat) : bytS s (a, true) = (⟨#[]⟩, (a, true)) := by simp [plc.bytS]
end Go.Proofs.YtmoojhnblakdhaaGreat.rbk
