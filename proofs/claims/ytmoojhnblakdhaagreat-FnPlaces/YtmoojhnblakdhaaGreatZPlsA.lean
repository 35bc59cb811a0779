/-
  Rows of Places in memory, as cells; what laws.szPlace, toPlace, eqPlace and szPlaceS, toPlaceS, eqPlaceS, markPlaceS, heldPlaceS answer and leave. Conditions: at most 1,048,576 of them (100,000 where they are marked), which lie in memory; a row that is written lies in a block of its own.
  Places in plain words: what is right, what comes first, what is put in; sorting those of which no two stand at one spot gives what putting them in one by one gives. No condition.
-/
import Derived.Test.YtmoojhnblakdhaaGreatCells
import Derived.Test.YtmoojhnblakdhaaGreatStrs
import Derived.Test.YtmoojhnblakdhaaGreatOrdP
import Derived.Test.YtmoojhnblakdhaaGreatObjA
import Derived.Laws.MakeOwn
namespace Go.Proofs.YtmoojhnblakdhaaGreat.rwPlace
open Go.RowKit Go.Joins
open Go.Proofs.YtmoojhnblakdhaaGreat.base Go.Proofs.YtmoojhnblakdhaaGreat.blk Go.Proofs.YtmoojhnblakdhaaGreat.aid
open Go.Proofs.YtmoojhnblakdhaaGreat.row (Rd Own OwnV appSem app_fold app1)
open Go.Proofs.YtmoojhnblakdhaaGreat.strs (mk)
set_option linter.unusedVariables false
attribute [local go_sem ↓] app_fold

/-- as cells -/
def cs (l : List (ByteArray × ByteArray × Int × Int × Int)) : List Value := l.flatMap fun b => [.string b.1, .string b.2.1, .int .i64 b.2.2.1, .int .i64 b.2.2.2.1, .int .i64 b.2.2.2.2]
theorem cs_nil : cs [] = [] := rfl
theorem cs_snoc (l : List (ByteArray × ByteArray × Int × Int × Int)) (b : ByteArray × ByteArray × Int × Int × Int) : cs (l ++ [b]) = cs l ++ [.string b.1, .string b.2.1, .int .i64 b.2.2.1, .int .i64 b.2.2.2.1, .int .i64 b.2.2.2.2] := by simp [cs]
theorem cs_app (l r : List (ByteArray × ByteArray × Int × Int × Int)) : cs (l ++ r) = cs l ++ cs r := by simp [cs]
theorem cs_cons (b : ByteArray × ByteArray × Int × Int × Int) (l : List (ByteArray × ByteArray × Int × Int × Int)) : cs (b :: l) = .string b.1 :: .string b.2.1 :: .int .i64 b.2.2.1 :: .int .i64 b.2.2.2.1 :: .int .i64 b.2.2.2.2 :: cs l := by simp [cs]
theorem cs_len : ∀ l : List (ByteArray × ByteArray × Int × Int × Int), (cs l).length = 5 * l.length
  | [] => rfl
  | b :: l => by rw [cs_cons]; simp only [List.length_cons]; rw [cs_len l]; omega
theorem cs_zero {l : List (ByteArray × ByteArray × Int × Int × Int)} (h : cs l = []) : l = [] := by
  cases l with
  | nil => rfl
  | cons b r => rw [cs_cons] at h; cases h
theorem cs_at : ∀ (l : List (ByteArray × ByteArray × Int × Int × Int)) (i : Nat) (b : ByteArray × ByteArray × Int × Int × Int), l[i]? = some b → (cs l)[i * 5]? = some (.string b.1) ∧ (cs l)[i * 5 + 1]? = some (.string b.2.1) ∧ (cs l)[i * 5 + 2]? = some (.int .i64 b.2.2.1) ∧ (cs l)[i * 5 + 3]? = some (.int .i64 b.2.2.2.1) ∧ (cs l)[i * 5 + 4]? = some (.int .i64 b.2.2.2.2)
  | [], i, b, h => by simp at h
  | c :: l, 0, b, h => by
    simp at h
    subst h
    rw [cs_cons]
    exact ⟨rfl, rfl, rfl, rfl, rfl⟩
  | c :: l, i + 1, b, h => by
    rw [cs_cons]
    have e : (i + 1) * 5 = i * 5 + 1 + 1 + 1 + 1 + 1 := by omega
    rw [e]
    exact cs_at l i b (by simpa using h)
theorem cs_set : ∀ (l : List (ByteArray × ByteArray × Int × Int × Int)) (i : Nat) (x0 : ByteArray) (x1 : ByteArray) (x2 : Int) (x3 : Int) (x4 : Int), i < l.length → (((((cs l).set (i * 5) (.string x0)).set (i * 5 + 1) (.string x1)).set (i * 5 + 2) (.int .i64 x2)).set (i * 5 + 3) (.int .i64 x3)).set (i * 5 + 4) (.int .i64 x4) = cs (l.set i (x0, x1, x2, x3, x4))
  | [], i, x0, x1, x2, x3, x4, h => by simp at h
  | z :: l, 0, x0, x1, x2, x3, x4, h => by simp [cs_cons]
  | z :: l, i + 1, x0, x1, x2, x3, x4, h => by
    rw [cs_cons, List.set_cons_succ, cs_cons, ← cs_set l i x0 x1 x2 x3 x4 (by simpa using h)]
    have e : (i + 1) * 5 = i * 5 + 1 + 1 + 1 + 1 + 1 := by omega
    rw [e]
    simp only [List.set_cons_succ]
/-- one of a row -/
theorem el {w : World} {a : Option Addr} {l : List (ByteArray × ByteArray × Int × Int × Int)} (h : Rd w a (cs l)) {i : Nat} {b : ByteArray × ByteArray × Int × Int × Int} (hb : l[i]? = some b) : ∃ g off, a = some ⟨g, off, none⟩ ∧ w.cell? ⟨g, off + i * 5, none⟩ = some (.string b.1) ∧ w.cell? ⟨g, off + i * 5 + 1, none⟩ = some (.string b.2.1) ∧ w.cell? ⟨g, off + i * 5 + 2, none⟩ = some (.int .i64 b.2.2.1) ∧ w.cell? ⟨g, off + i * 5 + 3, none⟩ = some (.int .i64 b.2.2.2.1) ∧ w.cell? ⟨g, off + i * 5 + 4, none⟩ = some (.int .i64 b.2.2.2.2) ∧ g < w.heap.size := by
  obtain ⟨h0, h1, h2, h3, h4⟩ := cs_at l i b hb
  obtain ⟨g, off, e, c0⟩ := h _ _ h0
  obtain ⟨g1, off1, e1, c1⟩ := h _ _ h1
  rw [e] at e1
  simp at e1
  obtain ⟨rfl, rfl⟩ := e1
  obtain ⟨g2, off2, e2, c2⟩ := h _ _ h2
  rw [e] at e2
  simp at e2
  obtain ⟨rfl, rfl⟩ := e2
  obtain ⟨g3, off3, e3, c3⟩ := h _ _ h3
  rw [e] at e3
  simp at e3
  obtain ⟨rfl, rfl⟩ := e3
  obtain ⟨g4, off4, e4, c4⟩ := h _ _ h4
  rw [e] at e4
  simp at e4
  obtain ⟨rfl, rfl⟩ := e4
  exact ⟨g, off, e, c0, by rw [Nat.add_assoc]; exact c1, by rw [Nat.add_assoc]; exact c2, by rw [Nat.add_assoc]; exact c3, by rw [Nat.add_assoc]; exact c4, World.block_lt_of_cell? w _ c0⟩

theorem info : (Tryz.prog.info? 33).map (fun i => (i.zero, i.size, i.bytes)) = some (some (.agg #[.string ⟨#[]⟩, .string ⟨#[]⟩, .int .i64 0, .int .i64 0, .int .i64 0]), 5, 56) := by kernel_rfl
theorem app (W : World) (base : Nat) (v : Value) (k : Nat) (acc : List (ByteArray × ByteArray × Int × Int × Int)) (x0 : ByteArray) (x1 : ByteArray) (x2 : Int) (x3 : Int) (x4 : Int) (hn : acc.length = k) (hown : W.ownsRow base 33 5 v k (cs acc)) (hb : base ≤ W.heap.size) (hl : k ≤ 1048576) :
    ∃ g c w2, (appSem #[23, 23] 23 #[v, .slice (some ⟨W.heap.size, 0, none⟩) 1 1]).run Tryz.prog (W.alloc (.cells #[.string x0, .string x1, .int .i64 x2, .int .i64 x3, .int .i64 x4] 33)) = .ok (.slice (some ⟨g, 0, none⟩) (k + 1) c) w2 ∧ w2.ownsRow base 33 5 (.slice (some ⟨g, 0, none⟩) (k + 1) c) (k + 1) (cs (acc ++ [(x0, x1, x2, x3, x4)])) ∧ (W.alloc (.cells #[.string x0, .string x1, .int .i64 x2, .int .i64 x3, .int .i64 x4] 33)).grownBy w2 v.ownBlock := by
  obtain ⟨g, c, w2, h1, h2, h3⟩ := app1 (W := W) (base := base) (S := 23) (T := 33) (size := 5) (bytes := 56) Tryz.underlying23 info rfl (by decide) v k (cs acc) [.string x0, .string x1, .int .i64 x2, .int .i64 x3, .int .i64 x4] rfl (by intro u hu; simp at hu; rcases hu with rfl | rfl | rfl | rfl | rfl <;> rfl) hown hb hl (by decide)
  exact ⟨g, c, w2, h1, by rw [cs_snoc]; exact h2, h3⟩

def noE : ByteArray × ByteArray × Int × Int × Int := (⟨#[]⟩, ⟨#[]⟩, 0, 0, 0)
theorem made (k : Nat) : madeCells #[.string ⟨#[]⟩, .string ⟨#[]⟩, .int .i64 0, .int .i64 0, .int .i64 0] (k * 5) = (cs (List.replicate k noE)).toArray := by
  apply Array.ext
  · rw [size_madeCells, List.size_toArray, cs_len, List.length_replicate]
    omega
  · intro i h1 h2
    rw [size_madeCells] at h1
    have hj : i / 5 < k := by omega
    have hr : (List.replicate k noE)[i / 5]? = some noE := by simp [hj]
    obtain ⟨b0, b1, b2, b3, b4⟩ := cs_at _ _ _ hr
    rcases (show i % 5 = 0 ∨ i % 5 = 1 ∨ i % 5 = 2 ∨ i % 5 = 3 ∨ i % 5 = 4 by omega) with h | h | h | h | h
    · have e : i / 5 * 5 = i := by omega
      rw [e] at b0
      have hb := (List.getElem?_eq_some_iff.1 b0).2
      simp only [List.getElem_toArray, hb]
      simp [madeCells, h, noE]
    · have e : i / 5 * 5 + 1 = i := by omega
      rw [e] at b1
      have hb := (List.getElem?_eq_some_iff.1 b1).2
      simp only [List.getElem_toArray, hb]
      simp [madeCells, h, noE]
    · have e : i / 5 * 5 + 2 = i := by omega
      rw [e] at b2
      have hb := (List.getElem?_eq_some_iff.1 b2).2
      simp only [List.getElem_toArray, hb]
      simp [madeCells, h, noE]
    · have e : i / 5 * 5 + 3 = i := by omega
      rw [e] at b3
      have hb := (List.getElem?_eq_some_iff.1 b3).2
      simp only [List.getElem_toArray, hb]
      simp [madeCells, h, noE]
    · have e : i / 5 * 5 + 4 = i := by omega
      rw [e] at b4
      have hb := (List.getElem?_eq_some_iff.1 b4).2
      simp only [List.getElem_toArray, hb]
      simp [madeCells, h, noE]
theorem run_make_rows (k : Nat) (hn : k ≤ 1048576) (u : World) : (Instr.makeSlice 23 (.int .i64 (k : Int)) (.int .i64 (k : Int))).run Tryz.prog u =
    .ok (.slice (some ⟨u.heap.size, 0, none⟩) k k) (u.alloc (.cells (cs (List.replicate k noE)).toArray 33)) := by
  obtain ⟨i0, hi, hz0, hz1, hz2⟩ := info_parts info
  have h := run_make (P := Tryz.prog) u 23 33 i0 (.agg #[.string ⟨#[]⟩, .string ⟨#[]⟩, .int .i64 0, .int .i64 0, .int .i64 0]) Tryz.underlying23 hi hz0 .i64 .i64 (k : Int) (k : Int) (by omega) (Int.le_refl _) (by rw [hz2]; omega) (by omega)
  have e : (k : Int).toNat = k := by omega
  rw [e] at h
  rw [← made]
  simpa [hz1, Value.cells] using h
/-- k are there, the rest is nothing yet -/
def part (l : List (ByteArray × ByteArray × Int × Int × Int)) (k : Nat) : List (ByteArray × ByteArray × Int × Int × Int) := l.take k ++ List.replicate (l.length - k) noE
theorem part_zero (l : List (ByteArray × ByteArray × Int × Int × Int)) : part l 0 = List.replicate l.length noE := by simp [part]
theorem part_all (l : List (ByteArray × ByteArray × Int × Int × Int)) : part l l.length = l := by simp [part]
theorem part_len (l : List (ByteArray × ByteArray × Int × Int × Int)) (k : Nat) (h : k ≤ l.length) : (part l k).length = l.length := by simp [part]; omega
theorem part_next (l : List (ByteArray × ByteArray × Int × Int × Int)) (k : Nat) (b : ByteArray × ByteArray × Int × Int × Int) (h : l[k]? = some b) : (part l k).set k b = part l (k + 1) := by
  have hlt := (List.getElem?_eq_some_iff.1 h).1
  unfold part
  have e1 : (l.take k).length = k := by simp; omega
  rw [List.set_append_right _ _ (by omega), e1, Nat.sub_self, show l.length - k = (l.length - (k + 1)) + 1 by omega, List.replicate_succ, List.set_cons_zero, List.take_add_one, h]
  simp
theorem below2 (w : World) (o1 o2 : Obj) : Below w.heap.size w ((w.alloc o1).alloc o2) := (below_alloc1 w o1).alloc (by simp) _
theorem below3 (w : World) (o1 o2 o3 : Obj) : Below w.heap.size w (((w.alloc o1).alloc o2).alloc o3) := (below2 w o1 o2).alloc (by simp; omega) _

/-- the bytes of one -/
def tot (b : ByteArray × ByteArray × Int × Int × Int) : Int := (b.1.size : Int) + (b.2.1.size : Int)
/-- what szPlaceS leaves of what is left -/
def szL : List (ByteArray × ByteArray × Int × Int × Int) → Int → Int
  | [], m => m
  | b :: r, m => if m < tot b then -1 else szL r (m - tot b)
def szF (l : List (ByteArray × ByteArray × Int × Int × Int)) (m : Int) : Int := if m < (l.length : Int) then -1 else szL l (m - l.length)
theorem tot_pos (b : ByteArray × ByteArray × Int × Int × Int) : 0 ≤ tot b := by unfold tot; omega

theorem szL_le : ∀ (l : List (ByteArray × ByteArray × Int × Int × Int)) (m : Int), szL l m ≤ m ∨ szL l m = -1
  | [], m => .inl (Int.le_refl _)
  | b :: r, m => by
    unfold szL
    split
    · exact .inr rfl
    · have := tot_pos b
      rcases szL_le r (m - tot b) with h | h
      · exact .inl (by omega)
      · exact .inr h
theorem szF_le {l : List (ByteArray × ByteArray × Int × Int × Int)} {m : Int} (h : 0 ≤ szF l m) : (l.length : Int) + szF l m ≤ m := by
  unfold szF at h ⊢
  split at h
  · omega
  · rename_i hn
    rw [if_neg hn]
    rcases szL_le l (m - l.length) with h2 | h2
    · omega
    · omega
theorem szF_len {l : List (ByteArray × ByteArray × Int × Int × Int)} (h : 0 ≤ szF l 1048576) : l.length ≤ 1048576 := by
  unfold szF at h
  split at h <;> omega
theorem szL_small : ∀ (l : List (ByteArray × ByteArray × Int × Int × Int)) (m : Int), 0 ≤ szL l m → m ≤ 1048576 → ∀ b ∈ l, b.1.size ≤ 1048576 ∧ b.2.1.size ≤ 1048576
  | [], m, h, hm => by simp
  | b :: r, m, h, hm => by
    unfold szL at h
    split at h
    · omega
    · rename_i hb
      unfold tot at hb
      intro x hx
      rcases List.mem_cons.1 hx with rfl | hx
      · exact ⟨by omega, by omega⟩
      · exact szL_small r _ h (by unfold tot; omega) x hx
theorem szF_smallM {l : List (ByteArray × ByteArray × Int × Int × Int)} {m : Int} (hm : m ≤ 1048576) (h : 0 ≤ szF l m) : ∀ b ∈ l, b.1.size ≤ 1048576 ∧ b.2.1.size ≤ 1048576 := by
  unfold szF at h
  split at h
  · omega
  · exact szL_small _ _ h (by omega)
theorem szF_small {l : List (ByteArray × ByteArray × Int × Int × Int)} (h : 0 ≤ szF l 1048576) : ∀ b ∈ l, b.1.size ≤ 1048576 ∧ b.2.1.size ≤ 1048576 := by
  unfold szF at h
  split at h
  · omega
  · exact szL_small l _ h (by omega)

/-- a row of its own is the answer -/
def SPost (w : World) (l : List (ByteArray × ByteArray × Int × Int × Int)) (e : Ending) (w' : World) : Prop :=
  ∃ a c, e = .returned (.slice a l.length c) ∧ OwnV 33 w' a (cs l) ∧ (∀ b o s, a = some ⟨b, o, s⟩ → w.heap.size ≤ b) ∧ Below w.heap.size w w' ∧ l.length ≤ c
/-- marks from m on -/
def me1 (m i : Nat) : ByteArray × ByteArray × Int × Int × Int := (mk (m + 5 * i), mk (m + 5 * i + 1), (m : Int) + 5 * i + 1 + 1, (m : Int) + 5 * i + 1 + 1 + 1, (m : Int) + 5 * i + 1 + 1 + 1 + 1)
def me (m k : Nat) : List (ByteArray × ByteArray × Int × Int × Int) := (List.range k).map (me1 m)
theorem me_len (m k : Nat) : (me m k).length = k := by simp [me]
theorem me_at (m k i : Nat) (h : i < k) : (me m k)[i]? = some (me1 m i) := by simp [me, h]
def mkE (m : Nat) (l : List (ByteArray × ByteArray × Int × Int × Int)) (i : Nat) : List (ByteArray × ByteArray × Int × Int × Int) := (me m l.length).take i ++ l.drop i
theorem mkE_zero (m : Nat) (l : List (ByteArray × ByteArray × Int × Int × Int)) : mkE m l 0 = l := by simp [mkE]
theorem mkE_all (m : Nat) (l : List (ByteArray × ByteArray × Int × Int × Int)) : mkE m l l.length = me m l.length := by
  unfold mkE
  rw [List.take_of_length_le (by rw [me_len]; exact Nat.le_refl _)]
  simp
theorem mkE_len (m : Nat) (l : List (ByteArray × ByteArray × Int × Int × Int)) (i : Nat) (h : i ≤ l.length) : (mkE m l i).length = l.length := by simp [mkE, me_len]; omega
theorem mkE_next (m : Nat) (l : List (ByteArray × ByteArray × Int × Int × Int)) (i : Nat) (h : i < l.length) : (mkE m l i).set i (me1 m i) = mkE m l (i + 1) := by
  unfold mkE
  have e2 : ((me m l.length).take i).length = i := by simp [me_len]; omega
  rw [List.set_append_right _ _ (by rw [e2]; exact Nat.le_refl _), e2, Nat.sub_self, List.drop_eq_getElem_cons h, List.set_cons_zero, List.take_add_one, me_at m _ i h]
  simp

end Go.Proofs.YtmoojhnblakdhaaGreat.rwPlace
namespace Go.Proofs.YtmoojhnblakdhaaGreat.plc
open Go.RowKit Go.Joins
open Go.Proofs.YtmoojhnblakdhaaGreat.ord
open Go.Proofs.YtmoojhnblakdhaaGreat.obj (objB objB_small)
set_option linter.unusedVariables false
set_option linter.unusedSimpArgs false

abbrev Pl : Type := ByteArray × ByteArray × Int × Int × Int
/-- where it stands: key and pack -/
abbrev sp (p : Pl) : ByteArray × ByteArray := (p.1, p.2.1)
def lessS (a b : ByteArray × ByteArray) : Bool := blt a.1 b.1 || (decide (a.1 = b.1) && blt a.2 b.2)
def lessP (a b : Pl) : Bool := lessS (sp a) (sp b)
/-- what comparePlaces tells -/
def cmpP (a b : Pl) : Int := if cmpB a.1 b.1 = 0 then cmpB a.2.1 b.2.1 else cmpB a.1 b.1
theorem cmpP_neg (a b : Pl) : cmpP a b < 0 ↔ lessP a b = true := by
  unfold cmpP lessP lessS
  by_cases h : cmpB a.1 b.1 = 0
  · rw [if_pos h, cmpB_neg]
    have he := (cmpB_zero _ _).1 h
    have hf : blt a.1 b.1 = false := by rw [he]; exact blt_irr _
    simp [sp, he, hf, blt_irr]
  · rw [if_neg h, cmpB_neg]
    have he : ¬ a.1 = b.1 := fun e => h ((cmpB_zero _ _).2 e)
    simp [sp, he]
theorem cmpP_nonneg (a b : Pl) : (0 ≤ cmpP a b) ↔ lessP a b = false := by
  constructor
  · intro h
    cases hl : lessP a b with
    | false => rfl
    | true => have := (cmpP_neg a b).2 hl; omega
  · intro h
    by_cases h0 : cmpP a b < 0
    · rw [(cmpP_neg a b).1 h0] at h; cases h
    · omega
theorem lessS_irr (a : ByteArray × ByteArray) : lessS a a = false := by simp [lessS, blt_irr]
theorem lessS_trans {a b c : ByteArray × ByteArray} (h1 : lessS a b = true) (h2 : lessS b c = true) : lessS a c = true := by
  unfold lessS at *
  rw [Bool.or_eq_true, Bool.and_eq_true, decide_eq_true_eq] at *
  rcases h1 with h1 | ⟨e1, h1⟩
  · rcases h2 with h2 | ⟨e2, h2⟩
    · exact .inl (blt_trans h1 h2)
    · exact .inl (by rw [← e2]; exact h1)
  · rcases h2 with h2 | ⟨e2, h2⟩
    · exact .inl (by rw [e1]; exact h2)
    · exact .inr ⟨e1.trans e2, blt_trans h1 h2⟩
theorem lessS_total {a b : ByteArray × ByteArray} (h : lessS a b = false) (hne : a ≠ b) : lessS b a = true := by
  unfold lessS at *
  rw [Bool.or_eq_false_iff] at h
  rw [Bool.or_eq_true, Bool.and_eq_true, decide_eq_true_eq]
  by_cases e : a.1 = b.1
  · refine .inr ⟨e.symm, blt_total ?_ (fun e2 => hne (Prod.ext e e2))⟩
    have := h.2
    simpa [e] using this
  · exact .inl (blt_total h.1 e)
theorem lessS_asy {a b : ByteArray × ByteArray} (h1 : lessS a b = true) (h2 : lessS b a = true) : False := by
  have h := lessS_trans h1 h2
  rw [lessS_irr] at h
  cases h

/-- a place is right -/
def plB (p : Pl) : Bool := decide (p.1.size = 32) && objB p.2.1 && (decide (p.2.2.1 = 1) || decide (p.2.2.1 = 2)) && (decide (0 ≤ p.2.2.2.1) && decide (p.2.2.2.1 ≤ 12000)) && (decide (0 ≤ p.2.2.2.2) && decide (p.2.2.2.2 ≤ 2000))
/-- one behind the one ahead of it -/
def aft (q : Option Pl) (p : Pl) : Bool := match q with | none => true | some g => lessP g p
def plsB : Option Pl → List Pl → Bool
  | _, [] => true
  | q, p :: r => plB p && aft q p && plsB (some p) r
def placesB (l : List Pl) : Bool := decide (l.length ≤ 300) && plsB none l
/-- rising -/
def Rising (l : List Pl) : Prop := l.Pairwise (fun a b => lessP a b = true)
theorem plsB_rising : ∀ (q : Option Pl) (l : List Pl), plsB q l = true → Rising l ∧ (∀ g, q = some g → ∀ p ∈ l, lessP g p = true) ∧ ∀ p ∈ l, plB p = true
  | q, [], h => ⟨.nil, by simp, by simp⟩
  | q, p :: r, h => by
    rw [plsB, Bool.and_eq_true, Bool.and_eq_true] at h
    obtain ⟨h1, h2, h3⟩ := plsB_rising (some p) r h.2
    have h4 := h2 p rfl
    refine ⟨List.pairwise_cons.2 ⟨h4, h1⟩, ?_, ?_⟩
    · intro g e x hx
      subst e
      have hg : lessP g p = true := h.1.2
      rcases List.mem_cons.1 hx with rfl | hx
      · exact hg
      · exact lessS_trans hg (h4 x hx)
    · intro x hx
      rcases List.mem_cons.1 hx with rfl | hx
      · exact h.1.1
      · exact h3 x hx
theorem plsB_of : ∀ (q : Option Pl) (l : List Pl), Rising l → (∀ p ∈ l, plB p = true) → (∀ p, l.head? = some p → aft q p = true) → plsB q l = true
  | q, [], _, _, _ => rfl
  | q, p :: r, h1, h2, h3 => by
    unfold Rising at h1
    rw [List.pairwise_cons] at h1
    rw [plsB, h2 p (by simp), h3 p rfl, plsB_of (some p) r h1.2 (fun x hx => h2 x (List.mem_cons_of_mem _ hx)) (fun x hx => h1.1 x (List.mem_of_mem_head? hx))]
    rfl
theorem placesB_iff (l : List Pl) : placesB l = true ↔ l.length ≤ 300 ∧ Rising l ∧ ∀ p ∈ l, plB p = true := by
  unfold placesB
  rw [Bool.and_eq_true, decide_eq_true_eq]
  constructor
  · rintro ⟨h1, h2⟩
    obtain ⟨a, _, b⟩ := plsB_rising _ _ h2
    exact ⟨h1, a, b⟩
  · rintro ⟨h1, h2, h3⟩
    exact ⟨h1, plsB_of none l h2 h3 (fun _ _ => rfl)⟩

/-- the first of a list that is not less -/
def spot (n : Pl) : List Pl → Nat → Nat
  | [], i => i
  | f :: r, i => if lessP f n = true then spot n r (i + 1) else i
theorem spot_step (l : List Pl) (n : Pl) (i : Nat) (f : Pl) (h : l[i]? = some f) : spot n (l.drop i) i = if lessP f n = true then spot n (l.drop (i + 1)) (i + 1) else i := by
  have hlt := (List.getElem?_eq_some_iff.1 h).1
  have e : l.drop i = f :: l.drop (i + 1) := by rw [List.drop_eq_getElem_cons hlt, (List.getElem?_eq_some_iff.1 h).2]
  rw [e, spot]
theorem spot_is (n : Pl) : ∀ (l : List Pl) (i : Nat), i ≤ spot n l i ∧ spot n l i ≤ i + l.length ∧ (∀ f ∈ l.take (spot n l i - i), lessP f n = true) ∧ (∀ f, (l.drop (spot n l i - i)).head? = some f → lessP f n = false)
  | [], i => by simp [spot]
  | f :: r, i => by
    unfold spot
    split
    · rename_i h
      obtain ⟨h1, h2, h3, h4⟩ := spot_is n r (i + 1)
      have e : spot n r (i + 1) - i = (spot n r (i + 1) - (i + 1)) + 1 := by omega
      refine ⟨by omega, by simp; omega, ?_, ?_⟩
      · rw [e, List.take_succ_cons]
        intro g hg
        rcases List.mem_cons.1 hg with rfl | hg
        · exact h
        · exact h3 g hg
      · rw [e, List.drop_succ_cons]
        exact h4
    · rename_i h
      refine ⟨Nat.le_refl _, by simp, by simp, ?_⟩
      intro g hg
      simp at hg
      subst hg
      simpa using h
/-- put into a rising list; one that is there stays -/
def put (l : List Pl) (x : Pl) : List Pl :=
  match l[spot x l 0]? with
  | some f => if lessP x f = true then l.take (spot x l 0) ++ [x] ++ l.drop (spot x l 0) else l
  | none => l.take (spot x l 0) ++ [x] ++ l.drop (spot x l 0)
theorem put_len (l : List Pl) (x : Pl) : (put l x).length ≤ l.length + 1 := by
  unfold put
  split
  · split
    · simp; omega
    · omega
  · simp; omega
theorem put_cases {l : List Pl} (x : Pl) (h : Rising l) : (put l x = l ∧ sp x ∈ l.map sp) ∨ (put l x = l.take (spot x l 0) ++ [x] ++ l.drop (spot x l 0) ∧ Rising (put l x) ∧ sp x ∉ l.map sp) := by
  obtain ⟨_, h2, h3, h4⟩ := spot_is x l 0
  simp only [Nat.sub_zero, Nat.zero_add] at h2 h3 h4
  have hcat : l = l.take (spot x l 0) ++ l.drop (spot x l 0) := (List.take_append_drop _ _).symm
  have hins : (∀ f ∈ l.drop (spot x l 0), lessP x f = true) → Rising (l.take (spot x l 0) ++ [x] ++ l.drop (spot x l 0)) ∧ sp x ∉ l.map sp := by
    intro hd
    constructor
    · unfold Rising at *
      rw [hcat, List.pairwise_append] at h
      rw [List.append_assoc, List.pairwise_append]
      refine ⟨h.1, ?_, ?_⟩
      · rw [List.singleton_append, List.pairwise_cons]
        exact ⟨hd, h.2.1⟩
      · intro a ha b hb
        rcases List.mem_cons.1 hb with rfl | hb
        · exact h3 a ha
        · exact h.2.2 a ha b hb
    · intro hm
      obtain ⟨f, hf, e⟩ := List.mem_map.1 hm
      rw [hcat] at hf
      rcases List.mem_append.1 hf with hf | hf
      · have := h3 f hf
        unfold lessP at this
        rw [e, lessS_irr] at this
        cases this
      · have := hd f hf
        unfold lessP at this
        rw [e, lessS_irr] at this
        cases this
  cases hg : l[spot x l 0]? with
  | none =>
    have hd : l.drop (spot x l 0) = [] := List.drop_of_length_le (List.getElem?_eq_none_iff.1 hg)
    obtain ⟨r1, r2⟩ := hins (by rw [hd]; simp)
    have e : put l x = l.take (spot x l 0) ++ [x] ++ l.drop (spot x l 0) := by unfold put; rw [hg]
    exact .inr ⟨e, by rw [e]; exact r1, r2⟩
  | some f =>
    have hlt := (List.getElem?_eq_some_iff.1 hg).1
    have hd : l.drop (spot x l 0) = f :: l.drop (spot x l 0 + 1) := by rw [List.drop_eq_getElem_cons hlt, (List.getElem?_eq_some_iff.1 hg).2]
    have hnf : lessP f x = false := h4 f (by rw [hd]; rfl)
    cases hx : lessP x f with
    | true =>
      have e : put l x = l.take (spot x l 0) ++ [x] ++ l.drop (spot x l 0) := by unfold put; rw [hg]; simp only [hx, if_true]
      have hr : ∀ g ∈ l.drop (spot x l 0), lessP x g = true := by
        intro g hgm
        rw [hd] at hgm
        rcases List.mem_cons.1 hgm with rfl | hgm
        · exact hx
        · have h5 : (l.drop (spot x l 0)).Pairwise (fun a b => lessP a b = true) := h.sublist (List.drop_sublist _ _)
          rw [hd, List.pairwise_cons] at h5
          exact lessS_trans hx (h5.1 g hgm)
      obtain ⟨r1, r2⟩ := hins hr
      exact .inr ⟨e, by rw [e]; exact r1, r2⟩
    | false =>
      have e : put l x = l := by unfold put; rw [hg]; simp only [hx]; rfl
      refine .inl ⟨e, List.mem_map.2 ⟨f, List.mem_of_getElem? hg, ?_⟩⟩
      by_cases hne : sp f = sp x
      · exact hne
      · have := lessS_total (a := sp f) (b := sp x) hnf hne
        unfold lessP at hx
        rw [hx] at this
        cases this
/-- the first of each spot, as they come -/
def hasS (acc : List Pl) (x : ByteArray × ByteArray) : Bool := acc.any (fun y => decide (y.1 = x.1) && decide (y.2.1 = x.2))
theorem hasS_iff (acc : List Pl) (x : ByteArray × ByteArray) : hasS acc x = true ↔ x ∈ acc.map sp := by
  unfold hasS
  rw [List.any_eq_true, List.mem_map]
  constructor
  · rintro ⟨y, hy, h⟩
    rw [Bool.and_eq_true, decide_eq_true_eq, decide_eq_true_eq] at h
    exact ⟨y, hy, Prod.ext h.1 h.2⟩
  · rintro ⟨y, hy, h⟩
    refine ⟨y, hy, ?_⟩
    rw [← h]
    simp
theorem hasS_not (acc : List Pl) (x : ByteArray × ByteArray) : hasS acc x = false ↔ x ∉ acc.map sp := by
  rw [← hasS_iff]
  simp
def fst1 (acc : List Pl) (x : Pl) : List Pl := if hasS acc (sp x) = true then acc else acc ++ [x]
theorem fst1_yes {acc : List Pl} {x : Pl} (h : sp x ∈ acc.map sp) : fst1 acc x = acc := by unfold fst1; rw [if_pos ((hasS_iff _ _).2 h)]
theorem fst1_no {acc : List Pl} {x : Pl} (h : sp x ∉ acc.map sp) : fst1 acc x = acc ++ [x] := by unfold fst1; rw [if_neg (fun q => h ((hasS_iff _ _).1 q))]
def firsts (l : List Pl) : List Pl := l.foldl fst1 []
theorem firsts_snoc (l : List Pl) (x : Pl) : firsts (l ++ [x]) = fst1 (firsts l) x := by simp [firsts, List.foldl_append]
theorem fst1_len (acc : List Pl) (x : Pl) : (fst1 acc x).length ≤ acc.length + 1 := by
  unfold fst1
  split
  · omega
  · simp
theorem foldl_len : ∀ (l acc : List Pl), (l.foldl fst1 acc).length ≤ acc.length + l.length
  | [], acc => by simp
  | x :: l, acc => by
    have h := foldl_len l (fst1 acc x)
    have h2 := fst1_len acc x
    simp only [List.foldl_cons, List.length_cons]
    omega
theorem firsts_len (l : List Pl) : (firsts l).length ≤ l.length := by simpa [firsts] using foldl_len l []
def Apart (l : List Pl) : Prop := (l.map sp).Nodup
theorem fst1_apart {acc : List Pl} (h : Apart acc) (x : Pl) : Apart (fst1 acc x) := by
  unfold fst1
  split
  · exact h
  · rename_i hn
    unfold Apart at *
    rw [List.map_append, List.nodup_append]
    refine ⟨h, by simp, ?_⟩
    intro a ha b hb e
    simp at hb
    subst hb
    subst e
    exact hn ((hasS_iff _ _).2 ha)
theorem foldl_apart : ∀ (l acc : List Pl), Apart acc → Apart (l.foldl fst1 acc)
  | [], acc, h => h
  | x :: l, acc, h => foldl_apart l _ (fst1_apart h x)
theorem firsts_apart (l : List Pl) : Apart (firsts l) := foldl_apart l [] (by simp [Apart])
theorem rising_apart {l : List Pl} (h : Rising l) : Apart l := by
  unfold Apart List.Nodup
  rw [List.pairwise_map]
  refine h.imp (fun {a b} hl e => ?_)
  unfold lessP at hl
  rw [e, lessS_irr] at hl
  cases hl
theorem foldl_same : ∀ (l acc : List Pl), Apart (acc ++ l) → l.foldl fst1 acc = acc ++ l
  | [], acc, _ => by simp
  | x :: l, acc, h => by
    have hx : sp x ∉ acc.map sp := by
      unfold Apart at h
      rw [List.map_append, List.nodup_append] at h
      intro hm
      exact h.2.2 _ hm _ (by simp) rfl
    have e : fst1 acc x = acc ++ [x] := fst1_no hx
    rw [List.foldl_cons, e, foldl_same l _ (by rw [List.append_assoc]; exact h), List.append_assoc]
    rfl
theorem firsts_same {l : List Pl} (h : Apart l) : firsts l = l := by
  have := foldl_same l [] (by simpa using h)
  simpa [firsts] using this
/-- put in one by one: rising, and the first of each spot -/
theorem puts_is : ∀ (l acc m : List Pl), Rising acc → acc.Perm m → Rising (l.foldl put acc) ∧ (l.foldl put acc).Perm (l.foldl fst1 m)
  | [], acc, m, h, hp => ⟨h, hp⟩
  | x :: l, acc, m, h, hp => by
    have hmem : sp x ∈ acc.map sp ↔ sp x ∈ m.map sp := (hp.map sp).mem_iff
    rcases put_cases x h with ⟨e, hm⟩ | ⟨e, hr, hm⟩
    · have e2 : fst1 m x = m := fst1_yes (hmem.1 hm)
      rw [List.foldl_cons, List.foldl_cons, e, e2]
      exact puts_is l acc m h hp
    · have e2 : fst1 m x = m ++ [x] := fst1_no (fun q => hm (hmem.2 q))
      rw [List.foldl_cons, List.foldl_cons, e2]
      refine puts_is l _ _ hr ?_
      rw [e]
      have p1 : (acc.take (spot x acc 0) ++ [x] ++ acc.drop (spot x acc 0)).Perm (x :: acc) := by
        have h1 : (acc.take (spot x acc 0) ++ [x] ++ acc.drop (spot x acc 0)).Perm (x :: (acc.take (spot x acc 0) ++ acc.drop (spot x acc 0))) := by
          rw [List.append_assoc]
          exact List.perm_middle
        rw [List.take_append_drop] at h1
        exact h1
      exact p1.trans ((hp.cons x).trans (List.perm_append_singleton x m).symm)
/-- rising lists of the same places are the same -/
theorem rising_uniq {a b : List Pl} (ha : Rising a) (hb : Rising b) (hp : a.Perm b) : a = b :=
  uniq (lt := fun a b => lessP a b = true) (fun x h => by unfold lessP at h; rw [lessS_irr] at h; cases h) (fun x y h1 h2 => lessS_asy h1 h2) a b ha hb (fun x => hp.mem_iff)
theorem sorted_rising {l : List Pl} (h : Apart l) (hs : l.Pairwise (fun a b => lessP b a = false)) : Rising l := by
  unfold Apart List.Nodup at h
  rw [List.pairwise_map] at h
  unfold Rising
  refine (h.and hs).imp (fun {a b} ⟨hne, hl⟩ => ?_)
  exact lessS_total hl (fun e => hne e.symm)
/-- sorted, they are what putting in one by one gives -/
theorem sorted_is {l d : List Pl} (hp : d.Perm (firsts l)) (hs : d.Pairwise (fun a b => lessP b a = false)) : d = l.foldl put [] := by
  have ha : Apart d := by
    unfold Apart
    exact (hp.map sp).nodup_iff.2 (firsts_apart l)
  obtain ⟨h1, h2⟩ := puts_is l [] [] .nil (List.Perm.refl _)
  exact rising_uniq (sorted_rising ha hs) h1 (hp.trans h2.symm)
theorem puts_rising (l : List Pl) : Rising (l.foldl put []) := (puts_is l [] [] .nil (List.Perm.refl _)).1
theorem puts_self {l : List Pl} (h : Rising l) : l.foldl put [] = l := by
  obtain ⟨h1, h2⟩ := puts_is l [] [] .nil (List.Perm.refl _)
  have e : l.foldl fst1 [] = l := firsts_same (rising_apart h)
  rw [e] at h2
  exact rising_uniq h1 h h2
theorem puts_len (l : List Pl) : (l.foldl put []).length = (firsts l).length := (puts_is l [] [] .nil (List.Perm.refl _)).2.length_eq
end Go.Proofs.YtmoojhnblakdhaaGreat.plc
