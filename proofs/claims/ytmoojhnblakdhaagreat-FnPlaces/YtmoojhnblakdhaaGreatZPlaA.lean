/-
  What strings.Compare and impl.comparePlaces answer and leave. No condition.
  Rows of places of our own: append of one place, of a row, of empty ones; parts of a row. No condition.
  What spec.l10Less and spec.PlacesRight answer and leave. Conditions: places that lie in memory, of texts of at most 1,048,576 bytes.
  What spec.l10Put and spec.l10Copy answer and leave. Conditions: places that lie in memory, in a slice that holds them.
  Answers with a row of places and a code: posts of both sides. No condition.
  What slices.Grow and slices.Concat of rows of places, and the spot of a place, answer and leave. Conditions: at most 1,048,576 places, which lie in memory.
  The program's map of places by their spots, as it is read: which places it holds; what is found, put in, taken out. No condition.
  What spec.l10Find and spec.PlacesFind answer and leave. Conditions: places that lie in memory, of texts of at most 1,048,576 bytes.
  What impl.bySpot answers and leaves. Conditions: at most 1,048,576 places, which lie in memory, of texts of at most 1,048,576 bytes.
  What spec.PlacesAdd answers and leaves. Conditions: places that lie in memory, of texts of at most 1,048,576 bytes.
-/
import Derived.Test.YtmoojhnblakdhaaGreatZPlsA
import Derived.Lib.Bytealg
import Derived.Lib.AppendZeros
import Derived.Lib.SliceRun
import Derived.Deep.Upon
import Derived.Shelf.SlSortCmp.QuietGrown
import Derived.Maps.RangeWalk
import Derived.Maps.Ext
import Derived.Maps.OwnOps
import Derived.DeepKeys4
import Derived.ProofKit
import Derived.Carry
namespace Go.Proofs.YtmoojhnblakdhaaGreat.plc
open Go.RowKit Go.Joins
open Go.Proofs.YtmoojhnblakdhaaGreat.base Go.Proofs.YtmoojhnblakdhaaGreat.blk Go.Proofs.YtmoojhnblakdhaaGreat.aid
open Go.Proofs.YtmoojhnblakdhaaGreat.ord
set_option linter.unusedVariables false

theorem cel5 {w : World} {g : Nat} {a b c d e : Value} {t : TypeId} {z : Nat × Nat} (h : w.heap[g]? = some (.cells #[a, b, c, d, e] t z)) : w.cell? ⟨g, 0, none⟩ = some a ∧ w.cell? ⟨g, 1, none⟩ = some b ∧ w.cell? ⟨g, 2, none⟩ = some c ∧ w.cell? ⟨g, 3, none⟩ = some d ∧ w.cell? ⟨g, 4, none⟩ = some e := by
  simp [World.cell?, h]
theorem below_drewN {B n : Nat} {w V : World} (h : Below B w V) : Below B w (V.drewN n) := ⟨h.os, h.tape, h.output, h.size, h.block⟩
theorem below_trans {w W V : World} (h : Below w.heap.size w W) (h2 : Below W.heap.size W V) : Below w.heap.size w V := h.trans (h2.mono h.size)
set_option maxRecDepth 100000 in
theorem compareString_any (a b : ByteArray) (w : World) :
    Calls Tryz.prog 76 #[.string a, .string b] w fun e w' => e = .returned (.int .i64 (cmpB a b)) ∧ w' = w := by
  go_enter Tryz.func76, Tryz.ntmps76
  go_wp2
  rw [run_callFunc_extern Tryz.func93 (by kernel_rfl) (by kernel_rfl) (by kernel_rfl) (e := Extern.BytealgCompare.compare) (by kernel_rfl), Lib.run_compareString]
  simp only [Result.andThen]
  rw [Oper.upon_value]
  go_wp2
  go_ret
  exact ⟨rfl, rfl⟩
set_option maxRecDepth 100000 in
theorem compare_any (a b : ByteArray) (w : World) :
    Calls Tryz.prog 57 #[.string a, .string b] w fun e w' => e = .returned (.int .i64 (cmpB a b)) ∧ w' = w := by
  go_enter Tryz.func57, Tryz.ntmps57
  go_wp2_with (go_at_call 76; refine (compareString_any _ _ _).mono ?_; rintro e w' ⟨rfl, rfl⟩)
  go_ret
  exact ⟨rfl, rfl⟩
def plV (p : Pl) : Value := .agg #[.string p.1, .string p.2.1, .int .i64 p.2.2.1, .int .i64 p.2.2.2.1, .int .i64 p.2.2.2.2]
def plO (p : Pl) : Obj := .cells #[.string p.1, .string p.2.1, .int .i64 p.2.2.1, .int .i64 p.2.2.2.1, .int .i64 p.2.2.2.2] 33
/-- two boxes are laid: its parameters -/
theorem comparePlaces_any (a b : Pl) (w : World) :
    Calls Tryz.prog 32 #[plV a, plV b] w fun e w' => e = .returned (.int .i64 (cmpP a b)) ∧ w' = (w.alloc (plO a)).alloc (plO b) := by
  obtain ⟨a0, a1, a2, a3, a4⟩ := a
  obtain ⟨b0, b1, b2, b3, b4⟩ := b
  unfold plV plO
  have HC := mkHid (fun wx => compare_any a0 b0 wx)
  have HD := mkHid (fun wx => compare_any a1 b1 wx)
  by_cases h : cmpB a0 b0 = 0
  · have e : cmpP (a0, a1, a2, a3, a4) (b0, b1, b2, b3, b4) = cmpB a1 b1 := by unfold cmpP; rw [if_pos h]
    rw [e]
    rw [h] at HC
    generalize cmpB a1 b1 = z at *
    clear e h
    go_enter Tryz.func32, Tryz.ntmps32
    go_wp2_with fail
    refine (HC.out _).mono ?_
    rintro e w1 ⟨rfl, rfl⟩
    go_wp2_with fail
    refine (HD.out _).mono ?_
    rintro e w1 ⟨rfl, rfl⟩
    go_wp2
    go_ret
    exact ⟨rfl, rfl⟩
  · have e : cmpP (a0, a1, a2, a3, a4) (b0, b1, b2, b3, b4) = cmpB a0 b0 := by unfold cmpP; rw [if_neg h]
    rw [e]
    have h0 : (cmpB a0 b0 != 0) = true := by simpa using h
    generalize cmpB a0 b0 = z at *
    clear e
    go_enter Tryz.func32, Tryz.ntmps32
    go_wp2_with fail
    refine (HC.out _).mono ?_
    rintro e w1 ⟨rfl, rfl⟩
    go_wp2
    go_ret
    exact ⟨rfl, rfl⟩
end Go.Proofs.YtmoojhnblakdhaaGreat.plc
namespace Go.Proofs.YtmoojhnblakdhaaGreat.plc
open Go.RowKit Go.Joins
open Go.Proofs.YtmoojhnblakdhaaGreat.base Go.Proofs.YtmoojhnblakdhaaGreat.blk Go.Proofs.YtmoojhnblakdhaaGreat.aid
open Go.Proofs.YtmoojhnblakdhaaGreat.row (Rd Own OwnV appSem app_fold)
open Go.Proofs.YtmoojhnblakdhaaGreat.rwPlace (cs)
set_option linter.unusedVariables false

theorem rd_add {w : World} {ad : Addr} {xs : List Value} (h : Rd w (some ad) xs) : ∀ j u, xs[j]? = some u → w.cell? (ad.add j) = some u := by
  intro j u hj
  obtain ⟨b, off, e, hc⟩ := h j u hj
  simp at e
  subst e
  rw [Addr.add_lit]
  exact hc
theorem cs_one (l : List Pl) : ∀ u ∈ cs l, u.oneCell' = true := by
  intro u hu
  obtain ⟨f, _, hf⟩ := List.mem_flatMap.1 hu
  simp at hf
  rcases hf with rfl | rfl | rfl | rfl | rfl <;> rfl
theorem cap_of {w : World} {base e n size : Nat} {a : Option Addr} {m c : Nat} {xs : List Value} (h : w.ownsRow base e size (.slice a m c) n xs) : m = n ∧ n ≤ c := by
  rcases h.2 with ⟨h1, h2⟩ | ⟨g, cap, cur, h1, _, _, h3, _⟩
  · simp at h1
    omega
  · simp at h1
    obtain ⟨_, rfl, rfl⟩ := h1
    exact ⟨rfl, h3⟩
theorem slice_of {w : World} {base e n size : Nat} {v : Value} {xs : List Value} (h : w.ownsRow base e size v n xs) : ∃ a c, v = .slice a n c := by
  rcases h.2 with ⟨h1, h2⟩ | ⟨g, cap, cur, h1, _⟩
  · exact ⟨none, 0, by rw [h1, h2]⟩
  · exact ⟨_, _, h1⟩
/-- append of a row that can be read to a row of our own -/
theorem appRP (W : World) (base : Nat) (v : Value) (n : Nat) (acc : List Pl) (hown : W.ownsRow base 33 5 v n (cs acc)) (hb : base ≤ W.heap.size)
    (a : Option Addr) (c : Nat) (l : List Pl) (hr : Rd W a (cs l)) (hl : n + l.length ≤ 2097152) :
    ∃ v' w2, (appSem #[23, 23] 23 #[v, .slice a l.length c]).run Tryz.prog W = .ok v' w2 ∧
      w2.ownsRow base 33 5 v' (n + l.length) (cs (acc ++ l)) ∧ W.grownBy w2 v.ownBlock := by
  obtain ⟨i0, hi, hz0, hz1, hz2⟩ := info_parts rwPlace.info
  cases a with
  | none =>
    have h0 : l = [] := by
      cases l with
      | nil => rfl
      | cons f r =>
        obtain ⟨b, off, e, _⟩ := hr 0 _ rfl
        cases e
    subst h0
    obtain ⟨a', c', rfl⟩ := slice_of hown
    obtain ⟨_, hc⟩ := cap_of hown
    have h := run_append_nothing (P := Tryz.prog) W 23 23 23 33 i0 Tryz.underlying23 hi a' n c' hc (.slice none 0 c) (Src.ofNil W Tryz.underlying23 c)
    exact ⟨_, W, h, by simpa using hown, grew_refl _ _⟩
  | some ad =>
    obtain ⟨v', w2, happ, hown2, hgr, hnil⟩ := run_append_own (P := Tryz.prog) W base 23 23 33 i0 (.agg #[.string ⟨#[]⟩, .string ⟨#[]⟩, .int .i64 0, .int .i64 0, .int .i64 0]) 5 56 Tryz.underlying23 hi hz0 hz1 hz2 rfl (by decide) v n (cs acc) hown ad l.length c (cs l) (by rw [rwPlace.cs_len]; omega) (rd_add hr) (cs_one l) (by unfold maxLen; omega) (by omega) hb
    exact ⟨v', w2, happ, by rw [rwPlace.cs_app]; exact hown2, hgr⟩
/-- append of n empty places to no row, of which none is kept -/
theorem app_zeros (w : World) (n : Nat) (h0 : 0 < n) (hn : n ≤ 1048576) :
    ∃ C w1, (appSem #[23, 3] 23 #[.slice none 0 0, .int .i64 (n : Int)]).run Tryz.prog w = .ok (.slice (some ⟨w.heap.size, 0, none⟩) n C) w1 ∧
      w1.ownsRow w.heap.size 33 5 (.slice (some ⟨w.heap.size, 0, none⟩) 0 C) 0 (cs []) ∧ n ≤ C ∧ Below w.heap.size w w1 := by
  obtain ⟨i0, hi0, hz0, hz1, hz2⟩ := info_parts rwPlace.info
  have h := Lib.run_append_nil_zeros (P := Tryz.prog) w 23 3 23 33 i0 _ .i64 .i64 Tryz.underlying23 Tryz.underlying3 hi0 hz0 n h0 (by rw [hz1]; decide) (by omega) (by rw [hz2]; omega)
  have hge := grownCap_ge w n 0 33
  have hle := grownCap_le_maxLen w n 0 33 (by unfold maxLen; omega)
  generalize grownCap w n 0 33 = C at *
  refine ⟨C, _, h, ?_, hge, re (w := w) (below_alloc1 w.drew _) rfl rfl rfl rfl⟩
  have q1 : ∀ m, (Builtin.zeroCells (Value.agg #[.string ⟨#[]⟩, .string ⟨#[]⟩, .int .i64 0, .int .i64 0, .int .i64 0]).cells m).size = m * 5 := fun m => by simp [Builtin.zeroCells]; rfl
  exact World.ownsRow_made (w := w.drew) (size := 5) _ C (Nat.le_refl _) hle (by rw [Array.size_append, q1, q1]; omega)

def sliceSem (t : TypeId) (v : Value) (a b c : Option Value) : Sem Value := Instr.slice t v a b c
theorem slice_fold (t : TypeId) (v : Value) (a b c : Option Value) : Instr.slice t v a b c = sliceSem t v a b c := rfl
/-- where a slice begins from place j on -/
def lo (a : Option Addr) (j c : Nat) : Option Addr := if c = j then a else a.map (fun x => x.add (j * 5))
theorem elem_is : Tryz.prog.elem 23 = 33 := by kernel_rfl
theorem size_is (w : World) : (sizeOf 33).run Tryz.prog w = .ok 5 w := by kernel_rfl
theorem und_is : Tryz.prog.underlying 23 = some (.slice (Tryz.prog.elem 23)) := by rw [elem_is]; exact Tryz.underlying23
theorem add_zero (a : Addr) : a.add 0 = a := by
  obtain ⟨b, o, s⟩ := a
  rfl
set_option maxRecDepth 100000 in
theorem sl_hi (a : Option Addr) (n c i : Nat) (h : i ≤ c) (wx : World) : (sliceSem 23 (.slice a n c) none (some (.int .i64 (i : Int))) none).run Tryz.prog wx = .ok (.slice a i c) wx := by
  have h1 := run_slice_h (P := Tryz.prog) wx 23 a n c und_is .i64 (i : Int) (by omega) (by omega)
  rw [elem_is, size_is] at h1
  refine h1.trans ?_
  simp only [Result.andThen, sliced]
  have e : (i : Int).toNat = i := by omega
  rw [e]
  congr 2
  · split
    · rfl
    · cases a with
      | none => rfl
      | some ad => simp [add_zero]
set_option maxRecDepth 100000 in
theorem sl_lo (a : Option Addr) (n c j : Nat) (h : j ≤ n) (wx : World) : (sliceSem 23 (.slice a n c) (some (.int .i64 (j : Int))) none none).run Tryz.prog wx = .ok (.slice (lo a j c) (n - j) (c - j)) wx := by
  have h1 := run_slice_l (P := Tryz.prog) wx 23 a n c und_is .i64 (j : Int) (by omega) (by omega)
  rw [elem_is, size_is] at h1
  refine h1.trans ?_
  simp only [Result.andThen, sliced]
  have e : (j : Int).toNat = j := by omega
  rw [e]
  unfold lo
  congr 2
theorem rd_take {w : World} {a : Option Addr} {l : List Pl} (h : Rd w a (cs l)) (i : Nat) : Rd w a (cs (l.take i)) := by
  intro j u hj
  refine h j u ?_
  have e : cs l = cs (l.take i) ++ cs (l.drop i) := by rw [← rwPlace.cs_app, List.take_append_drop]
  rw [e, List.getElem?_append_left (List.getElem?_eq_some_iff.1 hj).1]
  exact hj
theorem rd_drop {w : World} {a : Option Addr} {l : List Pl} {c : Nat} (h : Rd w a (cs l)) (j : Nat) (hj : j ≤ l.length) (hc : l.length ≤ c) : Rd w (lo a j c) (cs (l.drop j)) := by
  unfold lo
  split
  · have : l.drop j = [] := List.drop_of_length_le (by omega)
    rw [this]
    exact Rd.nil _ _
  · intro i u hi
    have e : cs l = cs (l.take j) ++ cs (l.drop j) := by rw [← rwPlace.cs_app, List.take_append_drop]
    have hl : (cs (l.take j)).length = j * 5 := by rw [rwPlace.cs_len, List.length_take]; omega
    obtain ⟨b, off, ea, hb⟩ := h (j * 5 + i) u (by rw [e, List.getElem?_append_right (by omega), hl]; simpa using hi)
    subst ea
    refine ⟨b, off + j * 5, by rw [Option.map_some, Addr.add_lit], ?_⟩
    have e2 : off + j * 5 + i = off + (j * 5 + i) := by omega
    rw [e2]
    exact hb
end Go.Proofs.YtmoojhnblakdhaaGreat.plc
namespace Go.Proofs.YtmoojhnblakdhaaGreat.plc
open Go.RowKit Go.Joins Go.Sort
open Go.Proofs.YtmoojhnblakdhaaGreat.base Go.Proofs.YtmoojhnblakdhaaGreat.blk Go.Proofs.YtmoojhnblakdhaaGreat.aid
open Go.Proofs.YtmoojhnblakdhaaGreat.ord
open Go.Proofs.YtmoojhnblakdhaaGreat.obj (objB objB_small)
open Go.Proofs.YtmoojhnblakdhaaGreat.row (Rd Own OwnV)
open Go.Proofs.YtmoojhnblakdhaaGreat.rwPlace (cs el)
set_option linter.unusedVariables false

theorem toList_eq {a b : ByteArray} : (a.toList == b.toList) = decide (a = b) := by
  by_cases h : a = b
  · subst h; simp
  · have : a.toList ≠ b.toList := fun e => h (by rw [toList_data, toList_data] at e; exact ByteArray.ext (Array.toList_inj.1 e))
    simp [h, this]
set_option maxRecDepth 100000 in
/-- two boxes are laid: its parameters -/
theorem less_any (a b : Pl) (w : World) :
    Calls Tryz.prog 30 #[plV a, plV b] w fun e w' => e = .returned (.bool (lessP a b)) ∧ w' = (w.alloc (plO a)).alloc (plO b) := by
  obtain ⟨a0, a1, a2, a3, a4⟩ := a
  obtain ⟨b0, b1, b2, b3, b4⟩ := b
  unfold plV plO
  have E : lessP (a0, a1, a2, a3, a4) (b0, b1, b2, b3, b4) = (Op.bytesLess a0.toList b0.toList || ((a0.toList == b0.toList) && Op.bytesLess a1.toList b1.toList)) := by
    rw [toList_eq]; rfl
  rw [E]
  clear E
  cases h1 : Op.bytesLess a0.toList b0.toList with
  | true =>
    go_enter Tryz.func30, Tryz.ntmps30
    go_wp2
    go_ret
    exact ⟨rfl, rfl⟩
  | false =>
    cases h2 : (a0.toList == b0.toList) with
    | false =>
      go_enter Tryz.func30, Tryz.ntmps30
      go_wp2
      go_ret
      exact ⟨rfl, rfl⟩
    | true =>
      cases h3 : Op.bytesLess a1.toList b1.toList with
      | false =>
        go_enter Tryz.func30, Tryz.ntmps30
        go_wp2
        go_ret
        exact ⟨rfl, rfl⟩
      | true =>
        go_enter Tryz.func30, Tryz.ntmps30
        go_wp2
        go_ret
        exact ⟨rfl, rfl⟩
theorem alloc_grown (w : World) (o : Obj) : ∃ q os', w.alloc o = grow (w.drewN q) os' := ⟨0, #[o], by rw [alloc_eq_grow]; rfl⟩
theorem alloc2_grown (w : World) (o p : Obj) : ∃ q os', (w.alloc o).alloc p = grow (w.drewN q) os' := ⟨0, #[o] ++ #[p], by rw [alloc_eq_grow, alloc_eq_grow, grow_grow]; rfl⟩
theorem mixed : Tryz.prog.follows .mixedOrders = true := by kernel_rfl
theorem below_grow {B n : Nat} {w V : World} (os : Array Obj) (h : Below B w V) (hs : B ≤ V.heap.size) : Below B w (grow (V.drewN n) os) :=
  ⟨h.os, h.tape, h.output, by have := h.size; simp; omega, fun k hk => by rw [heap_grow_old _ _ (by show k < V.heap.size; omega)]; exact h.block k hk⟩
theorem less_grown (a b : Pl) (w : World) (r : Bool) (hr : lessP a b = r) :
    Calls Tryz.prog 30 #[.agg #[.string a.1, .string a.2.1, .int .i64 a.2.2.1, .int .i64 a.2.2.2.1, .int .i64 a.2.2.2.2], .agg #[.string b.1, .string b.2.1, .int .i64 b.2.2.1, .int .i64 b.2.2.2.1, .int .i64 b.2.2.2.2]] w fun e w' => e = .returned (.bool r) ∧ ∃ q os', w' = grow (w.drewN q) os' :=
  (less_any a b w).mono (fun e w' h => ⟨by rw [h.1, hr], by rw [h.2]; exact alloc2_grown w _ _⟩)
/-- the one ahead -/
def before (l : List Pl) (k : Nat) : Option Pl := if k = 0 then none else l[k - 1]?
theorem ahead (l : List Pl) (k : Nat) (h : k < l.length) : (k = 0 ∧ before l k = none) ∨ ∃ j p, k = j + 1 ∧ before l k = some p ∧ l[j]? = some p := by
  cases k with
  | zero => exact .inl ⟨rfl, rfl⟩
  | succ j =>
    have hj : j < l.length := by omega
    exact .inr ⟨j, l[j], rfl, by simp [before, hj], by simp [hj]⟩
theorem plsB_step (l : List Pl) (k : Nat) (x : Pl) (h : l[k]? = some x) : plsB (before l k) (l.drop k) = (plB x && aft (before l k) x && plsB (before l (k + 1)) (l.drop (k + 1))) := by
  have hlt := (List.getElem?_eq_some_iff.1 h).1
  have e : l.drop k = x :: l.drop (k + 1) := by rw [List.drop_eq_getElem_cons hlt, (List.getElem?_eq_some_iff.1 h).2]
  have e2 : before l (k + 1) = some x := by simp [before, h]
  rw [e, plsB, e2]
def Small (l : List Pl) : Prop := ∀ b ∈ l, b.1.size ≤ 1048576 ∧ b.2.1.size ≤ 1048576
theorem plB_parts {x0 x1 : ByteArray} {x2 x3 x4 : Int} (h : plB (x0, x1, x2, x3, x4) = true) : x0.size = 32 ∧ objB x1 = true ∧ (x2 = 1 ∨ x2 = 2) ∧ 0 ≤ x3 ∧ x3 ≤ 12000 ∧ 0 ≤ x4 ∧ x4 ≤ 2000 := by
  unfold plB at h
  simp only [Bool.and_eq_true, Bool.or_eq_true, decide_eq_true_eq] at h
  obtain ⟨⟨⟨⟨h1, h2⟩, h3⟩, h4, h5⟩, h6, h7⟩ := h
  exact ⟨h1, h2, h3, h4, h5, h6, h7⟩
theorem plB_of {x0 x1 : ByteArray} {x2 x3 x4 : Int} (h1 : x0.size = 32) (h2 : objB x1 = true) (h3 : x2 = 1 ∨ x2 = 2) (h4 : 0 ≤ x3) (h5 : x3 ≤ 12000) (h6 : 0 ≤ x4) (h7 : x4 ≤ 2000) : plB (x0, x1, x2, x3, x4) = true := by
  unfold plB
  simp only [Bool.and_eq_true, Bool.or_eq_true, decide_eq_true_eq]
  exact ⟨⟨⟨⟨h1, h2⟩, h3⟩, h4, h5⟩, h6, h7⟩

set_option maxRecDepth 100000 in
set_option maxHeartbeats 2000000 in
theorem rightS_any (a : Option Addr) (c : Nat) (l : List Pl) (w : World) (hl : l.length ≤ 1048576) (hs : Small l) (hr : Rd w a (cs l)) :
    Calls Tryz.prog 7 #[.slice a l.length c] w fun e w' => e = .returned (.bool (placesB l)) ∧ Below w.heap.size w w' := by
  by_cases h1 : 300 < l.length
  · have E : Hid (placesB l = false) := mkHid (by unfold placesB; simp; omega)
    have h1i : (300 : Int) < (l.length : Int) := by omega
    go_enter Tryz.func7, Tryz.ntmps7
    go_wp2_with fail
    go_ret
    exact ⟨ret_eq (by rw [E.out]; rfl), Below.refl _ _⟩
  have h1i : (l.length : Int) ≤ 300 := by omega
  have HP : Hid (placesB l = plsB none l) := mkHid (by unfold placesB; rw [decide_eq_true (by omega), Bool.true_and])
  go_enter Tryz.func7, Tryz.ntmps7
  have hmx := mixed
  go_wp2_with fail
  go_loopw [3, 4] (fun i f wr => ∃ k : Nat, k ≤ l.length ∧ i = .int .i64 k ∧ Hid (plsB none l = plsB (before l k) (l.drop k)) ∧ Hid (Below w.heap.size w wr))
    (fun i _ _ => l.length - (intOf i).toNat)
  case atStart => exact ⟨0, Nat.zero_le _, rfl, mkHid (by simp [before]), mkHid (Below.refl _ _)⟩
  case round =>
    obtain ⟨k, hk, rfl, hF, hbel⟩ := hrel
    have hr1 := hr.below hbel.out
    by_cases hlt : k < l.length
    · have hlti : (k : Int) < (l.length : Int) := by omega
      obtain ⟨⟨x0, x1, x2, x3, x4⟩, hx⟩ : ∃ y, l[k]? = some y := ⟨_, List.getElem?_eq_getElem hlt⟩
      obtain ⟨g1, o1, rfl, c0, c1, c2, c3, c4, l1⟩ := el hr1 hx
      have hst := plsB_step l k _ hx
      simp only at c0 c1 c2 c3 c4
      have HO := mkHid (ahead l k hlt)
      have hsx := hs _ (List.mem_of_getElem? hx)
      simp only at hsx
      have HN := mkHid (fun wx => obj.objS_any x1 wx hsx.2)
      have HBad : Hid ((plB (x0, x1, x2, x3, x4) && aft (before l k) (x0, x1, x2, x3, x4)) = false → placesB l = false) := mkHid (fun h => by rw [HP.out, hF.out, hst, h, Bool.false_and])
      have HGood : Hid ((plB (x0, x1, x2, x3, x4) && aft (before l k) (x0, x1, x2, x3, x4)) = true → plsB none l = plsB (before l (k + 1)) (l.drop (k + 1))) := mkHid (fun h => by rw [hF.out, hst, h, Bool.true_and])
      have HV := mkHid (hbel.out.alloc hbel.out.size (.cells #[.string x0, .string x1, .int .i64 x2, .int .i64 x3, .int .i64 x4] 33))
      have hr2 := mkHid (hr1.alloc (.cells #[.string x0, .string x1, .int .i64 x2, .int .i64 x3, .int .i64 x4] 33))
      have hwr := hbel.out.size
      clear hF hst hx hr1
      by_cases s1 : x0.size = 32
      rotate_left
      · have s1i : ((x0.size : Int) != 32) = true := by simp; omega
        have E := mkHid (HBad.out (by simp [plB, s1]))
        clear HBad HGood HO HN s1
        go_wp2_with fail
        go_ret
        exact ⟨ret_eq (by rw [E.out]; rfl), HV.out⟩
      have s1i : ((x0.size : Int) != 32) = false := by simp; omega
      cases hn : objB x1 with
      | false =>
        rw [hn] at HN
        have E := mkHid (HBad.out (by simp [plB, hn]))
        clear HBad HGood HO s1
        go_wp2_with fail
        refine (HN.out _).mono ?_
        rintro e w1 ⟨rfl, rfl⟩
        go_wp2
        go_ret
        exact ⟨ret_eq (by rw [E.out]; rfl), HV.out⟩
      | true =>
        rw [hn] at HN
        by_cases s2 : x2 = 1 ∨ x2 = 2
        rotate_left
        · have t1 : (x2 != 1) = true := by simp; omega
          have t2 : (x2 != 2) = true := by simp; omega
          have E := mkHid (HBad.out (by simp [plB]; omega))
          clear HBad HGood HO s1 s2
          go_wp2_with fail
          refine (HN.out _).mono ?_
          rintro e w1 ⟨rfl, rfl⟩
          go_wp2
          go_ret
          exact ⟨ret_eq (by rw [E.out]; rfl), HV.out⟩
        by_cases s3 : x3 < 0 ∨ 12000 < x3 ∨ x4 < 0 ∨ 2000 < x4
        · have E := mkHid (HBad.out (by simp [plB]; omega))
          clear HBad HGood HO s1
          rcases s2 with rfl | rfl <;>
          (by_cases u1 : x3 < 0
           · go_wp2_with fail
             refine (HN.out _).mono ?_
             rintro e w1 ⟨rfl, rfl⟩
             go_wp2
             go_ret
             exact ⟨ret_eq (by rw [E.out]; rfl), HV.out⟩
           by_cases u2 : 12000 < x3
           · go_wp2_with fail
             refine (HN.out _).mono ?_
             rintro e w1 ⟨rfl, rfl⟩
             go_wp2
             go_ret
             exact ⟨ret_eq (by rw [E.out]; rfl), HV.out⟩
           by_cases u3 : x4 < 0
           · go_wp2_with fail
             refine (HN.out _).mono ?_
             rintro e w1 ⟨rfl, rfl⟩
             go_wp2
             go_ret
             exact ⟨ret_eq (by rw [E.out]; rfl), HV.out⟩
           have u4 : 2000 < x4 := by omega
           go_wp2_with fail
           refine (HN.out _).mono ?_
           rintro e w1 ⟨rfl, rfl⟩
           go_wp2
           go_ret
           exact ⟨ret_eq (by rw [E.out]; rfl), HV.out⟩)
        have u1 : 0 ≤ x3 := by omega
        have u2 : x3 ≤ 12000 := by omega
        have u3 : 0 ≤ x4 := by omega
        have u4 : x4 ≤ 2000 := by omega
        have hpl := plB_of s1 hn s2 u1 u2 u3 u4
        rw [hpl, Bool.true_and] at HBad HGood
        obtain ⟨f0, f1, f2, f3, f4⟩ := cel5 (blk_new wr (.cells #[.string x0, .string x1, .int .i64 x2, .int .i64 x3, .int .i64 x4] 33) wr.heap.size rfl)
        have hVs : (wr.alloc (.cells #[.string x0, .string x1, .int .i64 x2, .int .i64 x3, .int .i64 x4] 33)).heap.size = wr.heap.size + 1 := by simp
        clear s1 s3 hpl
        rcases HO.out with ⟨k0, hb0⟩ | ⟨j, ⟨p0, p1, p2, p3, p4⟩, k1, hb0, hp⟩
        · have z1 : (0 < k) = False := by simp [k0]
          have z2 : (0 < (k : Int)) = False := by simp [k0]
          have N1 := mkHid (HGood.out (by rw [hb0]; rfl))
          clear HO HBad HGood f0 f1 f2 f3 f4 hr2 k0 hb0
          rcases s2 with rfl | rfl <;>
          (go_wp2_with fail
           refine (HN.out _).mono ?_
           rintro e w1 ⟨rfl, rfl⟩
           go_wp2_with fail
           generalize wr.alloc (.cells #[.string x0, .string x1, .int .i64 _, .int .i64 x3, .int .i64 x4] 33) = V at *
           go_quiet (fail)
           go_wp2
           go_roundw
           case rel => exact ⟨k + 1, by omega, by go_num, N1, mkHid (below_drewN HV.out)⟩
           case measure => simp [intOf]; omega)
        · have z1 : (0 < k) = True := by simp [k1]
          have z2 : (0 < (k : Int)) = True := by simp [k1]
          have z3 : IntKind.i64.wrap ((k : Int) - 1) = (j : Int) := by rw [show (k : Int) - 1 = (j : Int) by omega, IntKind.wrap_i64]; omega
          have z4 : (j : Int) < (l.length : Int) := by omega
          obtain ⟨g2, o2, hg2, pc0, pc1, pc2, pc3, pc4, pl⟩ := el hr2.out hp
          obtain ⟨rfl, rfl⟩ : g1 = g2 ∧ o1 = o2 := by injection hg2 with e; injection e with e1 e2; exact ⟨e1, e2⟩
          simp only at pc0 pc1 pc2 pc3 pc4
          have F0 := fun n os => cell_grown (n := n) (os := os) (a := ⟨wr.heap.size, 0, none⟩) (by simp) f0
          have F1 := fun n os => cell_grown (n := n) (os := os) (a := ⟨wr.heap.size, 1, none⟩) (by simp) f1
          have F2 := fun n os => cell_grown (n := n) (os := os) (a := ⟨wr.heap.size, 2, none⟩) (by simp) f2
          have F3 := fun n os => cell_grown (n := n) (os := os) (a := ⟨wr.heap.size, 3, none⟩) (by simp) f3
          have F4 := fun n os => cell_grown (n := n) (os := os) (a := ⟨wr.heap.size, 4, none⟩) (by simp) f4
          have P0 := fun n os => cell_grown (n := n) (os := os) pl pc0
          have P1 := fun n os => cell_grown (n := n) (os := os) (a := ⟨g1, o1 + j * 5 + 1, none⟩) pl pc1
          have P2 := fun n os => cell_grown (n := n) (os := os) (a := ⟨g1, o1 + j * 5 + 2, none⟩) pl pc2
          have P3 := fun n os => cell_grown (n := n) (os := os) (a := ⟨g1, o1 + j * 5 + 3, none⟩) pl pc3
          have P4 := fun n os => cell_grown (n := n) (os := os) (a := ⟨g1, o1 + j * 5 + 4, none⟩) pl pc4
          have HB2 : Hid (∀ n os, Below w.heap.size w (grow ((wr.alloc (.cells #[.string x0, .string x1, .int .i64 x2, .int .i64 x3, .int .i64 x4] 33)).drewN n) os)) := mkHid (fun n os => below_grow os HV.out (by simp; omega))
          cases hless : lessP (p0, p1, p2, p3, p4) (x0, x1, x2, x3, x4) with
          | false =>
            have E := mkHid (HBad.out (by rw [hb0]; exact hless))
            have HS1 := mkHid (fun wx => less_grown (p0, p1, p2, p3, p4) (x0, x1, x2, x3, x4) wx _ hless)
            clear HO hg2 hp k1 hr2 pc0 pc1 pc2 pc3 pc4 HBad HGood hless hb0 f0 f1 f2 f3 f4 HV
            rcases s2 with rfl | rfl <;>
            (go_wp2_with fail
             refine (HN.out _).mono ?_
             rintro e w1 ⟨rfl, rfl⟩
             clear HN c0 c1 c2 c3 c4
             go_wp2_with fail
             generalize wr.alloc (.cells #[.string x0, .string x1, .int .i64 _, .int .i64 x3, .int .i64 x4] 33) = V at *
             refine wp_region_quiet_grown mixed (by kernel_rfl) ?_
             repeat (go_big_quiet_step ((go_at_call 30; refine Calls.grown_of (HS1.out _))))
             refine wpQuiet_nil ?_
             intro _ hw'
             obtain ⟨⟨nq, osq⟩, hw''⟩ := hw'
             subst hw''
             go_wp2
             go_ret
             exact ⟨ret_eq (by rw [E.out]; rfl), HB2.out _ _⟩)
          | true =>
            have N1 := mkHid (HGood.out (by rw [hb0]; exact hless))
            have HS1 := mkHid (fun wx => less_grown (p0, p1, p2, p3, p4) (x0, x1, x2, x3, x4) wx _ hless)
            clear HO hg2 hp k1 hr2 pc0 pc1 pc2 pc3 pc4 HBad HGood hless hb0 f0 f1 f2 f3 f4 HV
            rcases s2 with rfl | rfl <;>
            (go_wp2_with fail
             refine (HN.out _).mono ?_
             rintro e w1 ⟨rfl, rfl⟩
             clear HN c0 c1 c2 c3 c4
             go_wp2_with fail
             generalize wr.alloc (.cells #[.string x0, .string x1, .int .i64 _, .int .i64 x3, .int .i64 x4] 33) = V at *
             refine wp_region_quiet_grown mixed (by kernel_rfl) ?_
             repeat (go_big_quiet_step ((go_at_call 30; refine Calls.grown_of (HS1.out _))))
             refine wpQuiet_nil ?_
             intro _ hw'
             obtain ⟨⟨nq, osq⟩, hw''⟩ := hw'
             subst hw''
             go_wp2
             go_roundw
             case rel => exact ⟨k + 1, by omega, by go_num, N1, mkHid (HB2.out _ _)⟩
             case measure => simp [intOf]; omega)
    · obtain rfl : k = l.length := by omega
      have E : Hid (placesB l = true) := mkHid (by rw [HP.out, hF.out, List.drop_of_length_le (Nat.le_refl _), plsB])
      clear hr1 hF
      go_wp2
      go_ret
      exact ⟨ret_eq (by rw [E.out]; rfl), hbel.out⟩
end Go.Proofs.YtmoojhnblakdhaaGreat.plc
namespace Go.Proofs.YtmoojhnblakdhaaGreat.plc
open Go.RowKit Go.Joins Go.Sort
open Go.Proofs.YtmoojhnblakdhaaGreat.base Go.Proofs.YtmoojhnblakdhaaGreat.blk Go.Proofs.YtmoojhnblakdhaaGreat.aid
open Go.Proofs.YtmoojhnblakdhaaGreat.row (Rd Own OwnV appSem app_fold)
open Go.Proofs.YtmoojhnblakdhaaGreat.rwPlace (cs el)
set_option linter.unusedVariables false
set_option linter.unusedSimpArgs false
attribute [local go_sem ↓] app_fold slice_fold

theorem own_rd {w : World} {base T n size c : Nat} {a : Option Addr} {xs : List Value} (h : w.ownsRow base T size (.slice a n c) n xs) : Rd w a xs := by
  rcases h.2 with ⟨h1, h2⟩ | ⟨g, cap, cur, h1, _⟩
  · have h3 := h.1
    rw [h2, Nat.zero_mul] at h3
    have := List.eq_nil_of_length_eq_zero h3
    subst this
    exact Rd.nil _ _
  · simp at h1
    obtain ⟨rfl, _⟩ := h1
    exact (OwnV.rd (.inr ⟨g, rfl, Own.owns h⟩))
theorem empty_row (w : World) : (w.alloc (.cells #[] 33)).ownsRow w.heap.size 33 5 (.slice (some ⟨w.heap.size, 0, none⟩) 0 0) 0 (cs []) :=
  World.ownsRow_made (size := 5) w #[] 0 (Nat.le_refl _) (by unfold maxLen; omega) rfl
/-- first places, one, and the rest, in a row of our own -/
theorem three (a : Option Addr) (c : Nat) (l : List Pl) (x0 x1 : ByteArray) (x2 x3 x4 : Int) (k : Nat) (w : World) (hk : k ≤ l.length) (hl : l.length ≤ 1048576) (hc : l.length ≤ c) (hr : Rd w a (cs l)) :
    ∃ a1 c1 w1 a2 c2 w2 a3 c3 w3, (appSem #[23, 23] 23 #[.slice (some ⟨w.heap.size, 0, none⟩) 0 0, .slice a k c]).run Tryz.prog (w.alloc (.cells #[] 33)) = .ok (.slice a1 k c1) w1 ∧
      (appSem #[23, 23] 23 #[.slice a1 k c1, .slice (some ⟨w1.heap.size, 0, none⟩) 1 1]).run Tryz.prog (w1.alloc (.cells #[.string x0, .string x1, .int .i64 x2, .int .i64 x3, .int .i64 x4] 33)) = .ok (.slice a2 (k + 1) c2) w2 ∧
      (appSem #[23, 23] 23 #[.slice a2 (k + 1) c2, .slice (lo a k c) (l.length - k) (c - k)]).run Tryz.prog w2 = .ok (.slice a3 (k + 1 + (l.length - k)) c3) w3 ∧
      Rd w3 a3 (cs (l.take k ++ [(x0, x1, x2, x3, x4)] ++ l.drop k)) ∧ (∀ b o s, a3 = some ⟨b, o, s⟩ → w.heap.size ≤ b) ∧ Below w.heap.size w w3 ∧ k + 1 + (l.length - k) ≤ c3 ∧ Below w.heap.size w w1 := by
  have hB0 := below_alloc1 w (.cells #[] 33)
  have q1 : (l.take k).length = k := by simp; omega
  obtain ⟨v1, w1, happ1, hown1, hgr1⟩ := appRP (w.alloc (.cells #[] 33)) w.heap.size _ 0 [] (empty_row w) hB0.size a c (l.take k) (rd_take (hr.alloc _) k) (by omega)
  rw [q1, Nat.zero_add] at hown1
  rw [q1] at happ1
  obtain ⟨a1, c1, rfl⟩ := slice_of hown1
  have hB1 : Below w.heap.size w w1 := hB0.grown hgr1 hB0.size (fun j hj => ((empty_row w).lt j hj).1)
  obtain ⟨g2, c2, w2, happ2, hown2, hgr2⟩ := rwPlace.app (W := w1) (base := w.heap.size) (.slice a1 k c1) k (l.take k) x0 x1 x2 x3 x4 q1 hown1 hB1.size (by omega)
  have hB1' : Below w.heap.size w (w1.alloc (.cells #[.string x0, .string x1, .int .i64 x2, .int .i64 x3, .int .i64 x4] 33)) := hB1.alloc hB1.size _
  have hB2 : Below w.heap.size w w2 := hB1'.grown hgr2 hB1'.size (fun j hj => (hown1.lt j hj).1)
  have q3 : (l.drop k).length = l.length - k := by simp
  obtain ⟨v3, w3, happ3, hown3, hgr3⟩ := appRP w2 w.heap.size _ (k + 1) (l.take k ++ [(x0, x1, x2, x3, x4)]) hown2 hB2.size (lo a k c) (c - k) (l.drop k) (rd_drop (hr.below hB2) k hk hc) (by omega)
  rw [q3] at happ3 hown3
  obtain ⟨a3, c3, rfl⟩ := slice_of hown3
  have hB3 : Below w.heap.size w w3 := hB2.grown hgr3 hB2.size (fun j hj => (hown2.lt j hj).1)
  exact ⟨a1, c1, w1, _, c2, w2, a3, c3, w3, happ1, happ2, happ3, own_rd hown3, fun b o s e => (hown3.lt b (by rw [e]; rfl)).1, hB3, (cap_of hown3).2, hB1⟩
/-- places that can be read are the answer: the argument's own or fresh ones -/
def PtPost (w : World) (a : Option Addr) (ts : List Pl) (e : Ending) (w' : World) : Prop :=
  ∃ a' c', e = .returned (.slice a' ts.length c') ∧ Rd w' a' (cs ts) ∧ (a' = a ∨ ∀ b o s, a' = some ⟨b, o, s⟩ → w.heap.size ≤ b) ∧ Below w.heap.size w w' ∧ ts.length ≤ c'
theorem pt_of {w w' : World} {a a' : Option Addr} {ts : List Pl} {n c' : Nat} (hn : ts.length = n) (hr : Rd w' a' (cs ts)) (hf : a' = a ∨ ∀ b o s, a' = some ⟨b, o, s⟩ → w.heap.size ≤ b) (hb : Below w.heap.size w w') (hc : n ≤ c') : PtPost w a ts (.returned (.slice a' n c')) w' := by
  subst hn
  exact ⟨a', c', rfl, hr, hf, hb, hc⟩
theorem put_ins {l : List Pl} {x : Pl} {k : Nat} (hk : spot x l 0 = k) (h : ∀ f, l[k]? = some f → lessP x f = true) : put l x = l.take k ++ [x] ++ l.drop k := by
  subst hk
  unfold put
  cases hg : l[spot x l 0]? with
  | none => rfl
  | some f => simp only [h f hg, if_true]
theorem put_old {l : List Pl} {x f : Pl} {k : Nat} (hk : spot x l 0 = k) (hf : l[k]? = some f) (h : lessP x f = false) : put l x = l := by
  subst hk
  unfold put
  rw [hf]
  simp [h]
theorem ins_len (l : List Pl) (x : Pl) (k : Nat) (hk : k ≤ l.length) : (l.take k ++ [x] ++ l.drop k).length = k + 1 + (l.length - k) := by simp; omega
set_option maxRecDepth 100000 in
set_option maxHeartbeats 4000000 in
theorem putS_any (a : Option Addr) (c : Nat) (l : List Pl) (x0 x1 : ByteArray) (x2 x3 x4 : Int) (w : World) (hl : l.length ≤ 1048576) (hc : l.length ≤ c) (hr : Rd w a (cs l)) :
    Calls Tryz.prog 38 #[.slice a l.length c, .agg #[.string x0, .string x1, .int .i64 x2, .int .i64 x3, .int .i64 x4]] w (PtPost w a (put l (x0, x1, x2, x3, x4))) := by
  have HA := mkHid hr
  have hli : (l.length : Int) ≤ 1048576 := by omega
  have HB0 := mkHid (below_alloc1 w (.cells #[.string x0, .string x1, .int .i64 x2, .int .i64 x3, .int .i64 x4] 33))
  have b0 := mkHid (blk_new w (.cells #[.string x0, .string x1, .int .i64 x2, .int .i64 x3, .int .i64 x4] 33) w.heap.size rfl)
  clear hr
  go_enter Tryz.func38, Tryz.ntmps38
  have hmx := mixed
  go_wp2_with fail
  go_loopw [5] (fun i wr => ∃ k : Nat, k ≤ l.length ∧ i = .int .i64 k ∧ Hid (spot (x0, x1, x2, x3, x4) l 0 = spot (x0, x1, x2, x3, x4) (l.drop k) k) ∧ Hid (Below w.heap.size w wr) ∧ Hid (wr.heap[w.heap.size]? = some (.cells #[.string x0, .string x1, .int .i64 x2, .int .i64 x3, .int .i64 x4] 33)))
    (fun i _ => l.length - (intOf i).toNat)
  case atStart => exact ⟨0, Nat.zero_le _, rfl, mkHid (by simp), HB0, b0⟩
  case round =>
    obtain ⟨k, hkl, rfl, hE, HB, hb⟩ := hrel
    clear HB0 b0
    have hwr : w.heap.size < wr.heap.size := (Array.getElem?_eq_some_iff.1 hb.out).1
    have HG : Hid (∀ n os, Below w.heap.size w (grow (wr.drewN n) os)) := mkHid (fun n os => below_grow os HB.out (by omega))
    have HGb : Hid (∀ n os, (grow (wr.drewN n) os).heap[w.heap.size]? = some (.cells #[.string x0, .string x1, .int .i64 x2, .int .i64 x3, .int .i64 x4] 33)) := mkHid (fun n os => by rw [heap_grow_old _ _ (by show w.heap.size < wr.heap.size; omega)]; exact hb.out)
    obtain ⟨f0, f1, f2, f3, f4⟩ := cel5 hb.out
    have hS1 := fun wx => sl_hi a l.length c k (by omega) wx
    have hS2 := fun wx => sl_lo a l.length c k (by omega) wx
    by_cases hlt : k < l.length
    · have hlti : (k : Int) < (l.length : Int) := by omega
      obtain ⟨⟨y0, y1, y2, y3, y4⟩, hx⟩ : ∃ y, l[k]? = some y := ⟨_, List.getElem?_eq_getElem hlt⟩
      have hR := HA.out.below HB.out
      obtain ⟨g1, o1, rfl, c0, c1, c2, c3, c4, l1⟩ := el hR hx
      simp only at c0 c1 c2 c3 c4
      have hst := spot_step l (x0, x1, x2, x3, x4) k _ hx
      have F0 := fun n os => cell_grown (n := n) (os := os) (a := ⟨w.heap.size, 0, none⟩) hwr f0
      have F1 := fun n os => cell_grown (n := n) (os := os) (a := ⟨w.heap.size, 1, none⟩) hwr f1
      have F2 := fun n os => cell_grown (n := n) (os := os) (a := ⟨w.heap.size, 2, none⟩) hwr f2
      have F3 := fun n os => cell_grown (n := n) (os := os) (a := ⟨w.heap.size, 3, none⟩) hwr f3
      have F4 := fun n os => cell_grown (n := n) (os := os) (a := ⟨w.heap.size, 4, none⟩) hwr f4
      have P0 := fun n os => cell_grown (n := n) (os := os) l1 c0
      have P1 := fun n os => cell_grown (n := n) (os := os) (a := ⟨g1, o1 + k * 5 + 1, none⟩) l1 c1
      have P2 := fun n os => cell_grown (n := n) (os := os) (a := ⟨g1, o1 + k * 5 + 2, none⟩) l1 c2
      have P3 := fun n os => cell_grown (n := n) (os := os) (a := ⟨g1, o1 + k * 5 + 3, none⟩) l1 c3
      have P4 := fun n os => cell_grown (n := n) (os := os) (a := ⟨g1, o1 + k * 5 + 4, none⟩) l1 c4
      cases hless : lessP (y0, y1, y2, y3, y4) (x0, x1, x2, x3, x4) with
      | true =>
        have N1 : Hid (spot (x0, x1, x2, x3, x4) l 0 = spot (x0, x1, x2, x3, x4) (l.drop (k + 1)) (k + 1)) := mkHid (by rw [hE.out, hst, if_pos hless])
        have HS1 := mkHid (fun wx => less_grown (y0, y1, y2, y3, y4) (x0, x1, x2, x3, x4) wx _ hless)
        clear hx hst hE hS1 hS2 hless hR HB hb
        go_wp2_with fail
        refine wp_region_quiet_grown mixed (by kernel_rfl) ?_
        repeat (go_big_quiet_step ((go_at_call 30; refine Calls.grown_of (HS1.out _))))
        refine wpQuiet_nil ?_
        intro _ hw'
        obtain ⟨⟨nq, osq⟩, hw''⟩ := hw'
        subst hw''
        go_wp2
        go_roundw
        case rel => exact ⟨k + 1, by omega, by go_num, N1, mkHid (HG.out _ _), mkHid (HGb.out _ _)⟩
        case measure => simp [intOf]; omega
      | false =>
        have hk : spot (x0, x1, x2, x3, x4) l 0 = k := by rw [hE.out, hst, if_neg (by rw [hless]; simp)]
        have HS1 := mkHid (fun wx => less_grown (y0, y1, y2, y3, y4) (x0, x1, x2, x3, x4) wx _ hless)
        cases hrev : lessP (x0, x1, x2, x3, x4) (y0, y1, y2, y3, y4) with
        | false =>
          have HS2 := mkHid (fun wx => less_grown (x0, x1, x2, x3, x4) (y0, y1, y2, y3, y4) wx _ hrev)
          have hp := put_old hk hx hrev
          have HP : Hid (∀ W, Below w.heap.size w W → PtPost w (some ⟨g1, o1, none⟩) (put l (x0, x1, x2, x3, x4)) (.returned (.slice (some ⟨g1, o1, none⟩) l.length c)) W) := mkHid (fun W hW => pt_of (by rw [hp]) (by rw [hp]; exact HA.out.below hW) (.inl rfl) hW hc)
          have HG2 : Hid (∀ n os n2 os2, Below w.heap.size w (grow ((grow (wr.drewN n) os).drewN n2) os2)) := mkHid (fun n os n2 os2 => below_grow os2 (HG.out n os) (by have := (HG.out n os).size; omega))
          clear hx hst hE hS1 hS2 hless hR HB hb hk hp hrev
          go_wp2_with fail
          refine wp_region_quiet_grown mixed (by kernel_rfl) ?_
          repeat (go_big_quiet_step ((go_at_call 30; refine Calls.grown_of (HS1.out _))))
          refine wpQuiet_nil ?_
          intro _ hw'
          obtain ⟨⟨nq, osq⟩, hw''⟩ := hw'
          subst hw''
          have f0 := F0 nq osq
          have f1 := F1 nq osq
          have f2 := F2 nq osq
          have f3 := F3 nq osq
          have f4 := F4 nq osq
          have c0 := P0 nq osq
          have c1 := P1 nq osq
          have c2 := P2 nq osq
          have c3 := P3 nq osq
          have c4 := P4 nq osq
          have hwr2 : w.heap.size < (grow (wr.drewN nq) osq).heap.size := by have := (HGb.out nq osq); exact (Array.getElem?_eq_some_iff.1 this).1
          have l2 : g1 < (grow (wr.drewN nq) osq).heap.size := by simp; omega
          have HG3 := mkHid (HG2.out nq osq)
          clear F0 F1 F2 F3 F4 P0 P1 P2 P3 P4 HG2
          generalize grow (wr.drewN nq) osq = V at *
          have F0 := fun n os => cell_grown (n := n) (os := os) (a := ⟨w.heap.size, 0, none⟩) hwr2 f0
          have F1 := fun n os => cell_grown (n := n) (os := os) (a := ⟨w.heap.size, 1, none⟩) hwr2 f1
          have F2 := fun n os => cell_grown (n := n) (os := os) (a := ⟨w.heap.size, 2, none⟩) hwr2 f2
          have F3 := fun n os => cell_grown (n := n) (os := os) (a := ⟨w.heap.size, 3, none⟩) hwr2 f3
          have F4 := fun n os => cell_grown (n := n) (os := os) (a := ⟨w.heap.size, 4, none⟩) hwr2 f4
          have P0 := fun n os => cell_grown (n := n) (os := os) l2 c0
          have P1 := fun n os => cell_grown (n := n) (os := os) (a := ⟨g1, o1 + k * 5 + 1, none⟩) l2 c1
          have P2 := fun n os => cell_grown (n := n) (os := os) (a := ⟨g1, o1 + k * 5 + 2, none⟩) l2 c2
          have P3 := fun n os => cell_grown (n := n) (os := os) (a := ⟨g1, o1 + k * 5 + 3, none⟩) l2 c3
          have P4 := fun n os => cell_grown (n := n) (os := os) (a := ⟨g1, o1 + k * 5 + 4, none⟩) l2 c4
          go_wp2_with fail
          refine wp_region_quiet_grown mixed (by kernel_rfl) ?_
          repeat (go_big_quiet_step ((go_at_call 30; refine Calls.grown_of (HS2.out _))))
          refine wpQuiet_nil ?_
          intro _ hw'
          obtain ⟨⟨nq2, osq2⟩, hw''⟩ := hw'
          subst hw''
          go_wp2
          go_ret
          exact HP.out _ (HG3.out _ _)
        | true =>
          have HS2 := mkHid (fun wx => less_grown (x0, x1, x2, x3, x4) (y0, y1, y2, y3, y4) wx _ hrev)
          have hp := put_ins (l := l) hk (fun f hf => by rw [hx] at hf; cases hf; exact hrev)
          have HG2 : Hid (∀ n os n2 os2, Below w.heap.size w (grow ((grow (wr.drewN n) os).drewN n2) os2)) := mkHid (fun n os n2 os2 => below_grow os2 (HG.out n os) (by have := (HG.out n os).size; omega))
          have HG2b : Hid (∀ n os n2 os2, (grow ((grow (wr.drewN n) os).drewN n2) os2).heap[w.heap.size]? = some (.cells #[.string x0, .string x1, .int .i64 x2, .int .i64 x3, .int .i64 x4] 33)) := mkHid (fun n os n2 os2 => by
            have h := HGb.out n os
            rw [heap_grow_old _ _ (by show w.heap.size < (grow (wr.drewN n) os).heap.size; exact (Array.getElem?_eq_some_iff.1 h).1)]
            exact h)
          have HP := mkHid hp
          clear hx hst hE hless hR HB hb hk hp hrev
          go_wp2_with fail
          refine wp_region_quiet_grown mixed (by kernel_rfl) ?_
          repeat (go_big_quiet_step ((go_at_call 30; refine Calls.grown_of (HS1.out _))))
          refine wpQuiet_nil ?_
          intro _ hw'
          obtain ⟨⟨nq, osq⟩, hw''⟩ := hw'
          subst hw''
          have f0 := F0 nq osq
          have f1 := F1 nq osq
          have f2 := F2 nq osq
          have f3 := F3 nq osq
          have f4 := F4 nq osq
          have c0 := P0 nq osq
          have c1 := P1 nq osq
          have c2 := P2 nq osq
          have c3 := P3 nq osq
          have c4 := P4 nq osq
          have hwr2 : w.heap.size < (grow (wr.drewN nq) osq).heap.size := by have := (HGb.out nq osq); exact (Array.getElem?_eq_some_iff.1 this).1
          have l2 : g1 < (grow (wr.drewN nq) osq).heap.size := by simp; omega
          have HG3 := mkHid (HG2.out nq osq)
          have HG3b := mkHid (HG2b.out nq osq)
          clear F0 F1 F2 F3 F4 P0 P1 P2 P3 P4 HG2 HG2b
          generalize grow (wr.drewN nq) osq = V at *
          have F0 := fun n os => cell_grown (n := n) (os := os) (a := ⟨w.heap.size, 0, none⟩) hwr2 f0
          have F1 := fun n os => cell_grown (n := n) (os := os) (a := ⟨w.heap.size, 1, none⟩) hwr2 f1
          have F2 := fun n os => cell_grown (n := n) (os := os) (a := ⟨w.heap.size, 2, none⟩) hwr2 f2
          have F3 := fun n os => cell_grown (n := n) (os := os) (a := ⟨w.heap.size, 3, none⟩) hwr2 f3
          have F4 := fun n os => cell_grown (n := n) (os := os) (a := ⟨w.heap.size, 4, none⟩) hwr2 f4
          have P0 := fun n os => cell_grown (n := n) (os := os) l2 c0
          have P1 := fun n os => cell_grown (n := n) (os := os) (a := ⟨g1, o1 + k * 5 + 1, none⟩) l2 c1
          have P2 := fun n os => cell_grown (n := n) (os := os) (a := ⟨g1, o1 + k * 5 + 2, none⟩) l2 c2
          have P3 := fun n os => cell_grown (n := n) (os := os) (a := ⟨g1, o1 + k * 5 + 3, none⟩) l2 c3
          have P4 := fun n os => cell_grown (n := n) (os := os) (a := ⟨g1, o1 + k * 5 + 4, none⟩) l2 c4
          go_wp2_with fail
          refine wp_region_quiet_grown mixed (by kernel_rfl) ?_
          repeat (go_big_quiet_step ((go_at_call 30; refine Calls.grown_of (HS2.out _))))
          refine wpQuiet_nil ?_
          intro _ hw'
          obtain ⟨⟨nq2, osq2⟩, hw''⟩ := hw'
          subst hw''
          have B4 := mkHid (HG3.out nq2 osq2)
          have b4 := mkHid (HG3b.out nq2 osq2)
          clear F0 F1 F2 F3 F4 P0 P1 P2 P3 P4 f0 f1 f2 f3 f4 c0 c1 c2 c3 c4 HG3 HG3b hwr2 l2
          generalize grow (V.drewN nq2) osq2 = U at *
          obtain ⟨a1, e1, w1, a2, e2, w2, a3, e3, w3, happ1, happ2, happ3, ho, hg, hB, hcap, hB1⟩ := three (some ⟨g1, o1, none⟩) c l x0 x1 x2 x3 x4 k U hkl hl hc (HA.out.below B4.out)
          obtain ⟨d0, d1, d2, d3, d4⟩ := cel5 (blk_below b4.out hB1)
          have HQ : Hid (PtPost w (some ⟨g1, o1, none⟩) (put l (x0, x1, x2, x3, x4)) (.returned (.slice a3 (k + 1 + (l.length - k)) e3)) w3) := mkHid (pt_of (by rw [HP.out, ins_len _ _ _ hkl]) (by rw [HP.out]; exact ho) (.inr (fun b o s e => Nat.le_trans B4.out.size (hg b o s e))) (below_trans B4.out hB) hcap)
          clear ho hg hB hcap hB1 HP B4 b4
          go_wp2
          go_ret
          exact HQ.out
    · obtain rfl : k = l.length := by omega
      have hltn : (l.length < l.length) = False := by simp
      have hk : spot (x0, x1, x2, x3, x4) l 0 = l.length := by rw [hE.out, List.drop_of_length_le (Nat.le_refl _)]; rfl
      have hp := put_ins (l := l) hk (fun f hf => by rw [List.getElem?_eq_none (Nat.le_refl _)] at hf; cases hf)
      have hl0 := ins_len l (x0, x1, x2, x3, x4) l.length (Nat.le_refl _)
      have HTh := mkHid (fun (U : World) (hU : Below w.heap.size w U) => three a c l x0 x1 x2 x3 x4 l.length U hkl hl hc (HA.out.below hU))
      have HP := mkHid hp
      rw [Nat.sub_self] at hS2 hl0 HTh
      rw [Nat.add_zero] at hl0 HTh
      have HQ : Hid (∀ (U : World) (a3 : Option Addr) (e3 : Nat) (w3 : World), Below w.heap.size w U → Rd w3 a3 (cs (l.take l.length ++ [(x0, x1, x2, x3, x4)] ++ l.drop l.length)) → (∀ b o s, a3 = some ⟨b, o, s⟩ → U.heap.size ≤ b) → Below U.heap.size U w3 → l.length + 1 ≤ e3 → PtPost w a (put l (x0, x1, x2, x3, x4)) (.returned (.slice a3 (l.length + 1) e3)) w3) := mkHid (fun U a3 e3 w3 h1 h2 h3 h4 h5 => pt_of (by rw [HP.out, hl0]) (by rw [HP.out]; exact h2) (.inr (fun b o s e => Nat.le_trans h1.size (h3 b o s e))) (below_trans h1 h4) h5)
      have HBD : Hid (∀ n, Below w.heap.size w (wr.drewN n)) := mkHid (fun n => below_drewN HB.out)
      have HbD : Hid (∀ n, (wr.drewN n).heap[w.heap.size]? = some (.cells #[.string x0, .string x1, .int .i64 x2, .int .i64 x3, .int .i64 x4] 33)) := mkHid (fun n => hb.out)
      clear hE hk hp hl0 HP HG HGb HB hb
      go_wp2_with fail
      go_quiet (fail)
      have B3 := mkHid (HBD.out nq)
      have b3 := mkHid (HbD.out nq)
      clear HBD HbD f0 f1 f2 f3 f4
      generalize wr.drewN nq = V at *
      go_wp2_with fail
      go_quiet (fail)
      have B4 := mkHid (below_drewN (n := nq) B3.out)
      have b4 : Hid ((V.drewN nq).heap[w.heap.size]? = some (.cells #[.string x0, .string x1, .int .i64 x2, .int .i64 x3, .int .i64 x4] 33)) := mkHid b3.out
      clear B3 b3
      generalize V.drewN nq = U at *
      obtain ⟨a1, e1, w1, a2, e2, w2, a3, e3, w3, happ1, happ2, happ3, ho, hg, hB, hcap, hB1⟩ := HTh.out U B4.out
      obtain ⟨d0, d1, d2, d3, d4⟩ := cel5 (blk_below b4.out hB1)
      have HF := mkHid (HQ.out U a3 e3 w3 B4.out ho hg hB hcap)
      clear ho hg hB hcap hB1 HQ HTh B4 b4
      go_wp2
      go_ret
      exact HF.out
/-- a copy of its own -/
theorem copyS_any (a : Option Addr) (c : Nat) (l : List Pl) (w : World) (hl : l.length ≤ 1048576) (hr : Rd w a (cs l)) :
    Calls Tryz.prog 47 #[.slice a l.length c] w fun e w' => ∃ a' c', e = .returned (.slice a' l.length c') ∧ Rd w' a' (cs l) ∧ (∀ b o s, a' = some ⟨b, o, s⟩ → w.heap.size ≤ b) ∧ Below w.heap.size w w' ∧ l.length ≤ c' := by
  have hB0 := below_alloc1 w (.cells #[] 33)
  obtain ⟨v1, w1, happ1, hown1, hgr1⟩ := appRP (w.alloc (.cells #[] 33)) w.heap.size _ 0 [] (empty_row w) hB0.size a c l (hr.alloc _) (by omega)
  rw [Nat.zero_add] at hown1
  obtain ⟨a1, c1, rfl⟩ := slice_of hown1
  have hB1 : Below w.heap.size w w1 := hB0.grown hgr1 hB0.size (fun j hj => ((empty_row w).lt j hj).1)
  have HF : Hid (Rd w1 a1 (cs l) ∧ (∀ b o s, a1 = some ⟨b, o, s⟩ → w.heap.size ≤ b) ∧ Below w.heap.size w w1 ∧ l.length ≤ c1) := mkHid ⟨own_rd hown1, fun b o s e => (hown1.lt b (by rw [e]; rfl)).1, hB1, (cap_of hown1).2⟩
  clear hown1 hgr1 hB0 hB1 hr
  go_enter Tryz.func47, Tryz.ntmps47
  go_wp2
  go_ret
  exact ⟨a1, c1, rfl, HF.out⟩
end Go.Proofs.YtmoojhnblakdhaaGreat.plc
namespace Go.Proofs.YtmoojhnblakdhaaGreat.plc
open Go.RowKit Go.Joins Go.Sort
open Go.Proofs.YtmoojhnblakdhaaGreat.base Go.Proofs.YtmoojhnblakdhaaGreat.blk Go.Proofs.YtmoojhnblakdhaaGreat.aid
open Go.Proofs.YtmoojhnblakdhaaGreat.row (Rd Own OwnV)
open Go.Proofs.YtmoojhnblakdhaaGreat.rwPlace (cs el)
set_option linter.unusedVariables false
set_option linter.unusedSimpArgs false

theorem rd_keep {w w' : World} {a : Option Addr} {xs : List Value} {r : Option Nat} (h : Rd w a xs) (hg : w.grownBy w' r) (hr : ∀ b o s, a = some ⟨b, o, s⟩ → some b ≠ r) : Rd w' a xs :=
  h.block (fun b off e hl => hg.block b hl (hr b off none e))
/-- a result of the call's own: a row and a code, nothing yet -/
def zeroA : Obj := .cells #[.slice none 0 0, .int .i64 0] 29
/-- the answer and what is left -/
def APost (w : World) (r : List Pl × Int) (e : Ending) (w' : World) : Prop :=
  ∃ a' c', e = .returned (.agg #[.slice a' r.1.length c', .int .i64 r.2]) ∧ Rd w' a' (cs r.1) ∧ (∀ b o s, a' = some ⟨b, o, s⟩ → w.heap.size ≤ b) ∧ Below w.heap.size w w' ∧ r.1.length ≤ c'
theorem belowS {w w1 : World} {g : Nat} (hb : Below w.heap.size w w1) (hg : w.heap.size ≤ g) (x0 x1 : Value) : Below w.heap.size w ((w1.setCell ⟨g, 0, none⟩ x0).setCell ⟨g, 1, none⟩ x1) :=
  (hb.setCell (p := ⟨g, 0, none⟩) hg x0).setCell (p := ⟨g, 1, none⟩) hg x1
theorem apost_no {w w1 : World} {r : List Pl × Int} {k : Int} (hb : Below w.heap.size w w1) (hr : r = ([], k)) : APost w r (.returned (.agg #[.slice none 0 0, .int .i64 k])) ((w1.setCell ⟨w.heap.size, 0, none⟩ (.slice none 0 0)).setCell ⟨w.heap.size, 1, none⟩ (.int .i64 k)) := by
  subst hr
  exact ⟨none, 0, rfl, Rd.nil _ _, (fun _ _ _ e => by cases e), belowS hb (Nat.le_refl _) _ _, Nat.le_refl _⟩
theorem apost_new {w : World} {r : List Pl × Int} {k : Int} (hr : r = ([], k)) : APost w r (.returned (.agg #[.slice none 0 0, .int .i64 k])) (w.alloc (.cells #[.slice none 0 0, .int .i64 k] 29)) := by
  subst hr
  exact ⟨none, 0, rfl, Rd.nil _ _, (fun _ _ _ e => by cases e), below_alloc1 _ _, Nat.le_refl _⟩
theorem apost_of {w w1 : World} {r : List Pl × Int} {a' : Option Addr} {n c' : Nat} {k : Int} (hb : Below w.heap.size w w1) (hn : r.1.length = n) (hk : r.2 = k) (hrd : Rd w1 a' (cs r.1)) (hf : ∀ b o s, a' = some ⟨b, o, s⟩ → w.heap.size + 1 ≤ b) (hc : n ≤ c') :
    APost w r (.returned (.agg #[.slice a' n c', .int .i64 k])) ((w1.setCell ⟨w.heap.size, 0, none⟩ (.slice a' n c')).setCell ⟨w.heap.size, 1, none⟩ (.int .i64 k)) := by
  subst hn hk
  refine ⟨a', c', rfl, ?_, (fun b o s e => by have := hf b o s e; omega), belowS hb (Nat.le_refl _) _ _, hc⟩
  have hne : ∀ b o s, a' = some ⟨b, o, s⟩ → some b ≠ some w.heap.size := fun b o s e h => by have := hf b o s e; injection h with h; omega
  exact rd_keep (rd_keep hrd (grew_cell w1 w.heap.size 0 _) hne) (grew_cell _ w.heap.size 1 _) hne
/-- the answer, a row of our own, and what is left -/
def AOwn (w : World) (r : List Pl × Int) (e : Ending) (w' : World) : Prop :=
  ∃ a' c', e = .returned (.agg #[.slice a' r.1.length c', .int .i64 r.2]) ∧ OwnV 33 w' a' (cs r.1) ∧ (∀ b o s, a' = some ⟨b, o, s⟩ → w.heap.size ≤ b) ∧ Below w.heap.size w w' ∧ r.1.length ≤ c'
theorem aown_new {w : World} {r : List Pl × Int} {k : Int} (hr : r = ([], k)) : AOwn w r (.returned (.agg #[.slice none 0 0, .int .i64 k])) (w.alloc (.cells #[.slice none 0 0, .int .i64 k] 29)) := by
  subst hr
  exact ⟨none, 0, rfl, .inl rfl, (fun _ _ _ e => by cases e), below_alloc1 _ _, Nat.le_refl _⟩
theorem aown_no {w w1 : World} {r : List Pl × Int} {k : Int} (hb : Below w.heap.size w w1) (hr : r = ([], k)) : AOwn w r (.returned (.agg #[.slice none 0 0, .int .i64 k])) ((w1.setCell ⟨w.heap.size, 0, none⟩ (.slice none 0 0)).setCell ⟨w.heap.size, 1, none⟩ (.int .i64 k)) := by
  subst hr
  exact ⟨none, 0, rfl, .inl rfl, (fun _ _ _ e => by cases e), belowS hb (Nat.le_refl _) _ _, Nat.le_refl _⟩
theorem own_v {w : World} {base n c : Nat} {a : Option Addr} {l : List Pl} (h : w.ownsRow base 33 5 (.slice a n c) n (cs l)) : OwnV 33 w a (cs l) := by
  rcases h.2 with ⟨h1, h2⟩ | ⟨g, cap, cur, h1, _⟩
  · have h3 := h.1
    rw [h2, Nat.zero_mul] at h3
    exact .inl (List.eq_nil_of_length_eq_zero h3)
  · simp at h1
    obtain ⟨rfl, _⟩ := h1
    exact .inr ⟨g, rfl, Own.owns h⟩
theorem aown_of {w w1 : World} {r : List Pl × Int} {a' : Option Addr} {n c' : Nat} {k : Int} (hb : Below w.heap.size w w1) (hn : r.1.length = n) (hk : r.2 = k) (ho : w1.ownsRow (w.heap.size + 1) 33 5 (.slice a' n c') n (cs r.1)) :
    AOwn w r (.returned (.agg #[.slice a' n c', .int .i64 k])) ((w1.setCell ⟨w.heap.size, 0, none⟩ (.slice a' n c')).setCell ⟨w.heap.size, 1, none⟩ (.int .i64 k)) := by
  subst hn hk
  have h2 := ownsRow_setCell_below (ownsRow_setCell_below ho (a := ⟨w.heap.size, 0, none⟩) (Nat.lt_succ_self _) (.slice a' r.1.length c')) (a := ⟨w.heap.size, 1, none⟩) (Nat.lt_succ_self _) (.int .i64 r.2)
  exact ⟨a', c', rfl, own_v h2, (fun b o s e => by have := (ho.lt b (by rw [e]; rfl)).1; omega), belowS hb (Nat.le_refl _) _ _, (cap_of ho).2⟩
theorem row_keep {W W' : World} {B n : Nat} {v : Value} {xs : List Value} {r : Option Nat} (h : W.ownsRow B 33 5 v n xs) (hg : W.grownBy W' r) (hr : ∀ g, v.ownBlock = some g → r ≠ some g) : W'.ownsRow B 33 5 v n xs :=
  h.kept hg (by
    cases hv : v.ownBlock with
    | none => exact .inl rfl
    | some g => exact .inr (fun e => hr g hv e.symm))
end Go.Proofs.YtmoojhnblakdhaaGreat.plc
namespace Go.Proofs.YtmoojhnblakdhaaGreat.plc
open Go.RowKit Go.Joins Go.Sort
open Go.Proofs.YtmoojhnblakdhaaGreat.base Go.Proofs.YtmoojhnblakdhaaGreat.blk Go.Proofs.YtmoojhnblakdhaaGreat.aid
open Go.Proofs.YtmoojhnblakdhaaGreat.row (Rd Own OwnV appSem app_fold)
open Go.Proofs.YtmoojhnblakdhaaGreat.rwPlace (cs el)
set_option linter.unusedVariables false
set_option linter.unusedSimpArgs false
attribute [local go_sem ↓] app_fold slice_fold

set_option maxRecDepth 100000 in
set_option maxHeartbeats 1000000 in
theorem grow_any (n : Nat) (w : World) (hn : n ≤ 1048576) :
    Calls Tryz.prog 80 #[.slice none 0 0, .int .i64 (n : Int)] w fun e w' => ∃ v, e = .returned v ∧ w'.ownsRow w.heap.size 33 5 v 0 (cs []) ∧ Below w.heap.size w w' := by
  by_cases h0 : n = 0
  · subst h0
    go_enter Tryz.func80, Tryz.ntmps80
    go_wp2
    go_ret
    exact ⟨_, rfl, World.ownsRow_nil _ _ _ _, Below.refl _ _⟩
  · have hp : 0 < n := by omega
    have hpi : 0 < (n : Int) := by omega
    have hni : (n : Int) ≤ 1048576 := by omega
    obtain ⟨C, w1, happ, hown, hC, hb⟩ := app_zeros w n hp hn
    have h1 : (sliceSem 23 (.slice none 0 0) none (some (.int .i64 0)) none).run Tryz.prog w = .ok (.slice none 0 0) w := sl_hi none 0 0 0 (by omega) w
    have h2 : (sliceSem 23 (.slice (some ⟨w.heap.size, 0, none⟩) n C) none (some (.int .i64 0)) none).run Tryz.prog w1 = .ok (.slice (some ⟨w.heap.size, 0, none⟩) 0 C) w1 := sl_hi (some ⟨w.heap.size, 0, none⟩) n C 0 (by omega) w1
    have HO := mkHid (And.intro hown hb)
    clear hown hb
    go_enter Tryz.func80, Tryz.ntmps80
    go_wp2
    go_ret
    exact ⟨_, rfl, HO.out.1, HO.out.2⟩
def sv (x : Option Addr × Nat × List Pl) : Value := .slice x.1 x.2.2.length x.2.1
def allP (ls : List (Option Addr × Nat × List Pl)) : List Pl := (ls.map (fun x => x.2.2)).flatten
theorem allP_snoc (ls : List (Option Addr × Nat × List Pl)) (k : Nat) (x : Option Addr × Nat × List Pl) (h : ls[k]? = some x) : allP (ls.take (k + 1)) = allP (ls.take k) ++ x.2.2 := by
  unfold allP
  rw [List.take_add_one, h]
  simp
theorem allP_le (ls : List (Option Addr × Nat × List Pl)) (k : Nat) : (allP (ls.take k)).length ≤ (allP ls).length := by
  have e : allP ls = allP (ls.take k) ++ allP (ls.drop k) := by
    unfold allP
    rw [← List.flatten_append, ← List.map_append, List.take_append_drop]
  rw [e, List.length_append]
  omega
set_option maxRecDepth 100000 in
set_option maxHeartbeats 2000000 in
theorem concat_any (a0 : Option Addr) (c0 : Nat) (ls : List (Option Addr × Nat × List Pl)) (w : World) (hr : Rd w a0 (ls.map sv)) (hls : ∀ x ∈ ls, Rd w x.1 (cs x.2.2)) (hn : ls.length ≤ 100) (ht : (allP ls).length ≤ 1048576) :
    Calls Tryz.prog 65 #[.slice a0 ls.length c0] w fun e w' => ∃ v, e = .returned v ∧ w'.ownsRow w.heap.size 33 5 v (allP ls).length (cs (allP ls)) ∧ Below w.heap.size w w' := by
  have hni : (ls.length : Int) ≤ 100 := by omega
  have HR := mkHid hr
  have HL := mkHid hls
  have HG := mkHid (fun (n : Nat) wx (h : n ≤ 1048576) => grow_any n wx h)
  have HT := mkHid ht
  clear hr hls ht
  go_enter Tryz.func65, Tryz.ntmps65
  go_wp2_with fail
  go_loopw [3, 5, 11] (fun z s i wr => ∃ k : Nat, k ≤ ls.length ∧ i = .int .i64 k ∧ z = .int .i64 ((allP (ls.take k)).length : Nat) ∧ wr = w)
    (fun _ _ i _ => ls.length - (intOf i).toNat)
  case atStart => exact ⟨0, Nat.zero_le _, rfl, by simp [allP], rfl⟩
  case round =>
    obtain ⟨k, hk, rfl, rfl, hw⟩ := hrel
    have hw' := hw.symm
    subst hw'
    clear hw
    by_cases hlt : k < ls.length
    · have hlti : (k : Int) < (ls.length : Int) := by omega
      obtain ⟨⟨a, c, l⟩, hx⟩ : ∃ y, ls[k]? = some y := ⟨_, List.getElem?_eq_getElem hlt⟩
      obtain ⟨b, off, rfl, hc⟩ := HR.out k (sv (a, c, l)) (by simp [hx])
      simp only [sv] at hc
      have hs := mkHid (allP_snoc ls k _ hx)
      have hle := allP_le ls (k + 1)
      have hle2 := HT.out
      have hz : (((allP (ls.take k)).length : Nat) : Int) + (l.length : Int) = (((allP (ls.take (k + 1))).length : Nat) : Int) := by rw [hs.out, List.length_append]; simp
      have hz3 : (((allP (ls.take (k + 1))).length : Nat) : Int) ≤ 1048576 := by omega
      have hz5 : (l.length : Int) ≤ 1048576 := by omega
      have hz6 : (((allP (ls.take k)).length : Nat) : Int) ≤ 1048576 := by omega
      generalize hn1 : (allP (ls.take (k + 1))).length = n1 at *
      have HN1 := mkHid hn1
      clear hn1
      generalize (allP (ls.take k)).length = n0 at *
      have HZ := mkHid hz
      have hneg : ((n0 : Int) + (l.length : Int) < 0) = False := eq_false (by omega)
      clear hx hs hle hle2 hz
      go_wp2
      exact ⟨⟨k + 1, by omega, by go_num, by rw [HN1.out, HZ.out], by first | rfl | trivial⟩, by simp [intOf]; omega⟩
    · obtain rfl : k = ls.length := by omega
      rw [List.take_of_length_le (Nat.le_refl _)]
      have HG2 := mkHid (HG.out (allP ls).length w HT.out)
      generalize hN : (allP ls).length = N at *
      go_wp2_with fail
      refine HG2.out.mono ?_
      rintro e w1 ⟨v, rfl, hown, hb⟩
      have O1 := mkHid (And.intro hown hb)
      clear hown hb HG HG2
      go_wp2_with fail
      go_loopw [6, 8, 27] (fun v s i wr => ∃ k : Nat, k ≤ ls.length ∧ i = .int .i64 k ∧ Hid (wr.ownsRow w.heap.size 33 5 v (allP (ls.take k)).length (cs (allP (ls.take k))) ∧ Below w.heap.size w wr))
        (fun _ _ i _ => ls.length - (intOf i).toNat)
      case atStart => exact ⟨0, Nat.zero_le _, rfl, mkHid (by simpa [allP] using O1.out)⟩
      case round =>
        obtain ⟨k, hk, rfl, hO⟩ := hrel
        by_cases hlt : k < ls.length
        · have hlti : (k : Int) < (ls.length : Int) := by omega
          obtain ⟨⟨a, c, l⟩, hx⟩ : ∃ y, ls[k]? = some y := ⟨_, List.getElem?_eq_getElem hlt⟩
          obtain ⟨b, off, rfl, hc⟩ := HR.out k (sv (a, c, l)) (by simp [hx])
          simp only [sv] at hc
          have hc2 := (hO.out.2.cell (p := ⟨b, off + k, none⟩) (World.block_lt_of_cell? w _ hc)).trans hc
          have hs := allP_snoc ls k _ hx
          have hle := allP_le ls (k + 1)
          have hle2 := HT.out
          have hrl := (HL.out _ (List.mem_of_getElem? hx)).below hO.out.2
          simp only at hs hrl
          obtain ⟨v', w2, happ, hown2, hgr⟩ := appRP wr w.heap.size _ _ _ hO.out.1 hO.out.2.size a c l hrl (by rw [hs, List.length_append] at hle; omega)
          have N1 : Hid (w2.ownsRow w.heap.size 33 5 v' (allP (ls.take (k + 1))).length (cs (allP (ls.take (k + 1)))) ∧ Below w.heap.size w w2) := mkHid ⟨by rw [hs, List.length_append]; exact hown2, hO.out.2.grown hgr hO.out.2.size (fun j hj => (hO.out.1.lt j hj).1)⟩
          clear hx hs hle hle2 hrl hown2 hgr hO hc
          go_wp2
          exact ⟨⟨k + 1, by omega, by go_num, N1⟩, by simp [intOf]; omega⟩
        · obtain rfl : k = ls.length := by omega
          have O2 := hO.out
          rw [List.take_of_length_le (Nat.le_refl _), hN] at O2
          have O3 := mkHid O2
          clear O2 hO
          go_wp2
          go_ret
          exact ⟨_, rfl, by rw [hN]; exact O3.out.1, O3.out.2⟩

def spO (s : ByteArray × ByteArray) : Obj := .cells #[.string s.1, .string s.2] 73
theorem spot_any (x0 x1 : ByteArray) (x2 x3 x4 : Int) (w : World) :
    Calls Tryz.prog 66 #[.agg #[.string x0, .string x1, .int .i64 x2, .int .i64 x3, .int .i64 x4]] w fun e w' => e = .returned (.agg #[.string x0, .string x1]) ∧ w' = (w.alloc (.cells #[.string x0, .string x1, .int .i64 x2, .int .i64 x3, .int .i64 x4] 33)).alloc (.cells #[.string x0, .string x1] 73) := by
  go_enter Tryz.func66, Tryz.ntmps66
  go_wp2
  exact bodyPost_ret (v := .agg #[.string x0, .string x1]) (by simp [results, Tryz.results66, go_sem]) rfl ⟨rfl, rfl⟩
end Go.Proofs.YtmoojhnblakdhaaGreat.plc
namespace Go.Proofs.YtmoojhnblakdhaaGreat.plc
open Go.RowKit Go.Maps
open Go.WideShapes
set_option maxRecDepth 100000
set_option linter.unusedVariables false
set_option linter.unusedSimpArgs false

def keyV (s : ByteArray × ByteArray) : Value := .agg #[.string s.1, .string s.2]
def klB (s : ByteArray × ByteArray) : List UInt8 := keyBytes [.string s.1.data.toList, .string s.2.data.toList]
/-- what a key reads as -/
def kl (s : ByteArray × ByteArray) : Lit := .string (klB s)
theorem laidOutM : laidOutB Tryz.prog = true := by kernel_rfl
theorem lawK : Keyed Tryz.prog 73 := Keyed.of_law (deep_law_laid laidOutM (m := 2) (by omega) (of_decide_eq_true (by kernel_rfl)) (by kernel_rfl) (by kernel_rfl))
theorem isKeyK : Tryz.prog.keyType 73 = true := by kernel_rfl
theorem cellsK : Tryz.prog.cellsOf 73 = 2 := by kernel_rfl
theorem cellsS : Tryz.prog.cellsOf 9 = 1 := by kernel_rfl
theorem sizeK : ∃ n, Tryz.prog.types.size = n + 1 := ⟨Tryz.prog.types.size - 1, by have : 0 < Tryz.prog.types.size := of_decide_eq_true (by kernel_rfl); omega⟩
theorem keyLits_is (a b : Value) : Tryz.prog.keyLits (Tryz.prog.types.size + 1) 73 [a, b] = (Tryz.prog.keyLits Tryz.prog.types.size 9 [a]).bind (fun x => (Tryz.prog.keyLits Tryz.prog.types.size 9 [b]).map (fun y => x ++ y)) := by
  obtain ⟨n, hn⟩ := sizeK
  rw [hn]
  conv => lhs; unfold Program.keyLits
  simp only [Tryz.underlying73]
  simp [cellsK, cellsS]
  cases Tryz.prog.keyLits (n + 1) 9 [a] with
  | none => rfl
  | some x =>
    cases Tryz.prog.keyLits (n + 1) 9 [b] with
    | none => rfl
    | some y => simp
theorem keyLits_string (v : Value) : Tryz.prog.keyLits Tryz.prog.types.size 9 [v] = match v with | .string s => if s.size ≤ maxLen then some [.string s.data.toList] else none | _ => none := by
  obtain ⟨n, hn⟩ := sizeK
  rw [hn]
  cases v <;> simp [Program.keyLits, Tryz.underlying9]
theorem keyOf_is (a b : Value) : keyOf Tryz.prog 73 (.agg #[a, b]) = (Tryz.prog.keyLits (Tryz.prog.types.size + 1) 73 [a, b]).map fun ls => .string (keyBytes ls) := by
  unfold keyOf
  rw [Tryz.underlying73]
  simp only [isKeyK, Value.formed, Tryz.underlying73, Value.cells]
  simp [cellsK]
theorem keyOf_spot (s : ByteArray × ByteArray) (h1 : s.1.size ≤ maxLen) (h2 : s.2.size ≤ maxLen) : keyOf Tryz.prog 73 (keyV s) = some (kl s) := by
  unfold keyV
  rw [keyOf_is, keyLits_is, keyLits_string, keyLits_string]
  simp only
  rw [if_pos h1, if_pos h2]
  rfl
theorem keyOf_inv {v : Value} {l : Lit} (h : keyOf Tryz.prog 73 v = some l) : ∃ s : ByteArray × ByteArray, v = keyV s ∧ l = kl s ∧ s.1.size ≤ maxLen ∧ s.2.size ≤ maxLen := by
  have h0 := h
  unfold keyOf at h
  rw [Tryz.underlying73] at h
  simp only [isKeyK, Bool.true_and] at h
  split at h
  · rename_i hf
    simp only [Value.formed, Tryz.underlying73, cellsK] at hf
    cases v <;> simp at hf
    rename_i cs
    obtain ⟨l0⟩ := cs
    match l0, hf with
    | [a, b], _ =>
      rw [keyOf_is, keyLits_is, keyLits_string, keyLits_string] at h0
      cases a with
      | string s1 =>
        by_cases h1 : s1.size ≤ maxLen
        · cases b with
          | string s2 =>
            by_cases h2 : s2.size ≤ maxLen
            · simp [h1, h2] at h0
              exact ⟨(s1, s2), rfl, by rw [← h0]; rfl, h1, h2⟩
            · simp [h1, h2] at h0
          | _ => simp [h1] at h0
        · simp [h1] at h0
      | _ => simp at h0
  · cases h
theorem kl_inj {s t : ByteArray × ByteArray} (h1 : s.1.size ≤ maxLen) (h2 : s.2.size ≤ maxLen) (h3 : t.1.size ≤ maxLen) (h4 : t.2.size ≤ maxLen) (h : kl s = kl t) : s = t := by
  have e := lawK.inj (keyOf_spot s h1 h2) (by rw [h]; exact keyOf_spot t h3 h4)
  unfold keyV at e
  injection e with e
  simp at e
  exact Prod.ext e.1 e.2

/-- how a place reads -/
def dat (p : Pl) : DataW Unit := .agg [.lit (.string p.1.data.toList), .lit (.string p.2.1.data.toList), .lit (.int .i64 p.2.2.1), .lit (.int .i64 p.2.2.2.1), .lit (.int .i64 p.2.2.2.2)]
def R (v : Value) : Option (DataW Unit × List MemPlace) :=
  match v with
  | .agg cs => match cs.toList with
    | [.string a, .string b, .int .i64 c, .int .i64 d, .int .i64 e] => some (dat (a, b, c, d, e), [])
    | _ => none
  | _ => none
theorem R_mk (p : Pl) : R (plV p) = some (dat p, []) := rfl
theorem R_inv {v : Value} {y : DataW Unit × List MemPlace} (h : R v = some y) : ∃ p : Pl, v = plV p ∧ y = (dat p, []) := by
  unfold R at h
  cases v <;> simp at h
  rename_i cs
  obtain ⟨l⟩ := cs
  simp only at h
  split at h
  · cases h
    refine ⟨(_, _, _, _, _), ?_, rfl⟩
    unfold plV
    simp_all
  · cases h
theorem dat_inj {p q : Pl} (h : dat p = dat q) : p = q := by
  obtain ⟨p0, p1, p2, p3, p4⟩ := p
  obtain ⟨q0, q1, q2, q3, q4⟩ := q
  unfold dat at h
  simp at h
  obtain ⟨h0, h1, rfl, rfl, rfl⟩ := h
  rw [ByteArray.ext h0, ByteArray.ext h1]

def Fits (L : List Pl) : Prop := ∀ p ∈ L, p.1.size ≤ 1048576 ∧ p.2.1.size ≤ 1048576
theorem fit_max {n : Nat} (h : n ≤ 1048576) : n ≤ maxLen := by unfold maxLen; omega
/-- the map that reads as D holds just these places -/
structure HoldsM (D : DataW Unit) (L : List Pl) : Prop where
  isMap : IsMap D
  apart : Apart L
  fits : Fits L
  at_ : ∀ p ∈ L, ∀ z, D.atKey (kl (sp p)) z = dat p
  only : ∀ k, Maps.has D k = true → ∃ p ∈ L, k = kl (sp p)
theorem HoldsM.nil : HoldsM (.map []) [] := ⟨isMap_empty, by simp [Apart], by simp [Fits], by simp, by intro k h; simp [Maps.has] at h⟩
theorem HoldsM.there {D : DataW Unit} {L : List Pl} (h : HoldsM D L) {p : Pl} (hp : p ∈ L) : Maps.has D (kl (sp p)) = true := has_true_of_atKey (h.at_ p hp)
theorem HoldsM.hasS {D : DataW Unit} {L : List Pl} (h : HoldsM D L) (s : ByteArray × ByteArray) (h1 : s.1.size ≤ 1048576) (h2 : s.2.size ≤ 1048576) : Maps.has D (kl s) = hasS L s := by
  cases hs : plc.hasS L s with
  | true =>
    obtain ⟨p, hp, rfl⟩ := List.mem_map.1 ((hasS_iff _ _).1 hs)
    exact h.there hp
  | false =>
    cases hh : Maps.has D (kl s) with
    | false => rfl
    | true =>
      obtain ⟨p, hp, e⟩ := h.only _ hh
      have hf := h.fits p hp
      have := kl_inj (s := s) (t := sp p) (fit_max h1) (fit_max h2) (fit_max hf.1) (fit_max hf.2) e
      exact absurd (List.mem_map.2 ⟨p, hp, this.symm⟩) ((hasS_not _ _).1 hs)
theorem kl_ne {p q : Pl} (hp : p.1.size ≤ 1048576 ∧ p.2.1.size ≤ 1048576) (hq : q.1.size ≤ 1048576 ∧ q.2.1.size ≤ 1048576) (h : sp p ≠ sp q) : kl (sp p) ≠ kl (sp q) :=
  fun e => h (kl_inj (fit_max hp.1) (fit_max hp.2) (fit_max hq.1) (fit_max hq.2) e)
theorem HoldsM.put {D : DataW Unit} {L : List Pl} (h : HoldsM D L) (x : Pl) (hx : sp x ∉ L.map sp) (h1 : x.1.size ≤ 1048576) (h2 : x.2.1.size ≤ 1048576) : HoldsM (D.put (kl (sp x)) (dat x)) (L ++ [x]) := by
  have hfx : Fits (L ++ [x]) := by
    intro p hp
    rcases List.mem_append.1 hp with hp | hp
    · exact h.fits p hp
    · simp at hp; subst hp; exact ⟨h1, h2⟩
  refine ⟨h.isMap.put _ _, ?_, hfx, ?_, ?_⟩
  · unfold Apart at *
    rw [List.map_append, List.nodup_append]
    refine ⟨h.apart, by simp, ?_⟩
    intro a ha b hb e
    simp at hb
    subst hb
    subst e
    exact hx ha
  · intro p hp z
    rcases List.mem_append.1 hp with hp | hp
    · rw [atKey_put_other (kl_ne (h.fits p hp) ⟨h1, h2⟩ (fun e => hx (by rw [← e]; exact List.mem_map_of_mem hp)))]
      exact h.at_ p hp z
    · simp at hp
      subst hp
      exact atKey_put_same (k := kl (sp p)) h.isMap (by exact trivial) _ _
  · intro k hk
    by_cases e : k = kl (sp x)
    · exact ⟨x, by simp, e⟩
    · rw [has_put_other e] at hk
      obtain ⟨p, hp, hpe⟩ := h.only k hk
      exact ⟨p, List.mem_append_left _ hp, hpe⟩
theorem inj_on : ∀ {L : List Pl}, (L.map sp).Nodup → ∀ {p q : Pl}, p ∈ L → q ∈ L → sp p = sp q → p = q
  | [], _, p, q, hp, _, _ => by cases hp
  | x :: L, h, p, q, hp, hq, e => by
    rw [List.map_cons, List.nodup_cons] at h
    rcases List.mem_cons.1 hp with hp2 | hp2
    · rcases List.mem_cons.1 hq with hq2 | hq2
      · rw [hp2, hq2]
      · exact absurd (by rw [← hp2, e]; exact List.mem_map_of_mem hq2) h.1
    · rcases List.mem_cons.1 hq with hq2 | hq2
      · exact absurd (by rw [← hq2, ← e]; exact List.mem_map_of_mem hp2) h.1
      · exact inj_on h.2 hp2 hq2 e
theorem apart_filter {L : List Pl} (h : Apart L) (f : Pl → Bool) : Apart (L.filter f) := by
  unfold Apart at *
  exact h.sublist ((List.filter_sublist).map sp)
theorem HoldsM.del {D : DataW Unit} {L : List Pl} (h : HoldsM D L) (f : Pl → Bool) (q : Pl) (hq : q ∈ L) (hf : ∀ p ∈ L, f p = false ↔ p = q) : HoldsM (D.del (kl (sp q))) (L.filter f) := by
  refine ⟨h.isMap.del _, apart_filter h.apart f, fun p hp => h.fits p (List.mem_filter.1 hp).1, ?_, ?_⟩
  · intro p hp z
    obtain ⟨hp, hpf⟩ := List.mem_filter.1 hp
    have hne : p ≠ q := fun e => by rw [(hf p hp).2 e] at hpf; cases hpf
    have hsp : sp p ≠ sp q := fun e => hne (by
      have ha := h.apart
      unfold Apart at ha
      exact inj_on ha hp hq e)
    rw [atKey_del_other (kl_ne (h.fits p hp) (h.fits q hq) hsp)]
    exact h.at_ p hp z
  · intro k hk
    by_cases e : k = kl (sp q)
    · subst e
      rw [has_del_same] at hk
      cases hk
    · rw [has_del_other e] at hk
      obtain ⟨p, hp, hpe⟩ := h.only k hk
      refine ⟨p, List.mem_filter.2 ⟨hp, ?_⟩, hpe⟩
      cases hfp : f p with
      | true => rfl
      | false =>
        rw [(hf p hp).1 hfp] at hpe
        exact absurd hpe e
end Go.Proofs.YtmoojhnblakdhaaGreat.plc
namespace Go.Proofs.YtmoojhnblakdhaaGreat.plc
open Go.RowKit Go.Joins Go.Sort
open Go.Proofs.YtmoojhnblakdhaaGreat.base Go.Proofs.YtmoojhnblakdhaaGreat.blk Go.Proofs.YtmoojhnblakdhaaGreat.aid
open Go.Proofs.YtmoojhnblakdhaaGreat.ord
open Go.Proofs.YtmoojhnblakdhaaGreat.row (Rd Own OwnV)
open Go.Proofs.YtmoojhnblakdhaaGreat.rwPlace (cs el)
set_option linter.unusedVariables false
set_option linter.unusedSimpArgs false

/-- the first that has the key -/
def findP (l : List Pl) (k : ByteArray) : Option Pl := l.find? (fun p => p.1.toList == k.toList)
def zeroP : Pl := (⟨#[]⟩, ⟨#[]⟩, 0, 0, 0)
/-- what PlacesFind answers -/
def findA (l : List Pl) (k : ByteArray) : Pl × Int :=
  if 400 < l.length ∨ 20000 < k.size then (zeroP, 2) else if placesB l = false then (zeroP, 1) else match findP l k with | none => (zeroP, 8) | some p => (p, 0)
def outV (r : Pl × Int) : Value := .agg #[.string r.1.1, .string r.1.2.1, .int .i64 r.1.2.2.1, .int .i64 r.1.2.2.2.1, .int .i64 r.1.2.2.2.2, .int .i64 r.2]
theorem below5 {w w1 : World} {g : Nat} (hb : Below w.heap.size w w1) (hg : w.heap.size ≤ g) (x0 x1 x2 x3 x4 : Value) : Below w.heap.size w (((((w1.setCell ⟨g, 0, none⟩ x0).setCell ⟨g, 1, none⟩ x1).setCell ⟨g, 2, none⟩ x2).setCell ⟨g, 3, none⟩ x3).setCell ⟨g, 4, none⟩ x4) :=
  ((((hb.setCell (p := ⟨g, 0, none⟩) hg x0).setCell (p := ⟨g, 1, none⟩) hg x1).setCell (p := ⟨g, 2, none⟩) hg x2).setCell (p := ⟨g, 3, none⟩) hg x3).setCell (p := ⟨g, 4, none⟩) hg x4
theorem below6 {w w1 : World} {g : Nat} (hb : Below w.heap.size w w1) (hg : w.heap.size ≤ g) (x0 x1 x2 x3 x4 x5 : Value) : Below w.heap.size w ((((((w1.setCell ⟨g, 0, none⟩ x0).setCell ⟨g, 1, none⟩ x1).setCell ⟨g, 2, none⟩ x2).setCell ⟨g, 3, none⟩ x3).setCell ⟨g, 4, none⟩ x4).setCell ⟨g, 5, none⟩ x5) :=
  (below5 hb hg x0 x1 x2 x3 x4).setCell (p := ⟨g, 5, none⟩) hg x5
theorem cel6 {w : World} {g : Nat} {a b c d e f : Value} {t : TypeId} {z : Nat × Nat} (h : w.heap[g]? = some (.cells #[a, b, c, d, e, f] t z)) : w.cell? ⟨g, 0, none⟩ = some a ∧ w.cell? ⟨g, 1, none⟩ = some b ∧ w.cell? ⟨g, 2, none⟩ = some c ∧ w.cell? ⟨g, 3, none⟩ = some d ∧ w.cell? ⟨g, 4, none⟩ = some e ∧ w.cell? ⟨g, 5, none⟩ = some f := by
  simp [World.cell?, h]
def zeroO : Obj := .cells #[.string ⟨#[]⟩, .string ⟨#[]⟩, .int .i64 0, .int .i64 0, .int .i64 0] 33
/-- a result of the call's own: a Place and a code, nothing yet -/
def zeroR : Obj := .cells #[.string ⟨#[]⟩, .string ⟨#[]⟩, .int .i64 0, .int .i64 0, .int .i64 0, .int .i64 0] 35
def FdPost (w : World) (l : List Pl) (k : ByteArray) (e : Ending) (w' : World) : Prop :=
  ((∃ x0 x1 x2 x3 x4, findP l k = some (x0, x1, x2, x3, x4) ∧ e = .returned (.tuple #[.agg #[.string x0, .string x1, .int .i64 x2, .int .i64 x3, .int .i64 x4], .bool true])) ∨
   (findP l k = none ∧ e = .returned (.tuple #[.agg #[.string ⟨#[]⟩, .string ⟨#[]⟩, .int .i64 0, .int .i64 0, .int .i64 0], .bool false]))) ∧ Below w.heap.size w w'
set_option maxRecDepth 100000 in
set_option maxHeartbeats 1000000 in
theorem findS_any (a : Option Addr) (c : Nat) (l : List Pl) (k : ByteArray) (w : World) (hl : l.length ≤ 1048576) (hr : Rd w a (cs l)) :
    Calls Tryz.prog 37 #[.slice a l.length c, .string k] w (FdPost w l k) := by
  have hr0 := hr.alloc zeroO
  have hb0 := blk_new w zeroO w.heap.size rfl
  have HB0 := mkHid (below_alloc1 w zeroO)
  unfold zeroO at hb0 hr0 HB0
  obtain ⟨z0, z1, z2, z3, z4⟩ := cel5 hb0
  have uf := unfrozen hb0
  have hli : (l.length : Int) ≤ 1048576 := by omega
  go_enter Tryz.func37, Tryz.ntmps37
  go_wp2_with fail
  generalize hW : w.alloc (.cells #[.string ⟨#[]⟩, .string ⟨#[]⟩, .int .i64 0, .int .i64 0, .int .i64 0] 33) = W at *
  clear hW hb0 hr
  go_loopw [6] (fun i wr => ∃ q : Nat, q ≤ l.length ∧ i = .int .i64 q ∧ wr = W ∧ Hid (findP l k = findP (l.drop q) k)) (fun i _ => l.length - (intOf i).toNat)
  case atStart => exact ⟨0, Nat.zero_le _, rfl, rfl, mkHid rfl⟩
  case round =>
    obtain ⟨q, hq, rfl, rfl, hF⟩ := hrel
    by_cases hlt : q < l.length
    · have hlti : (q : Int) < (l.length : Int) := by omega
      obtain ⟨⟨x0, x1, x2, x3, x4⟩, hx⟩ : ∃ y, l[q]? = some y := ⟨_, List.getElem?_eq_getElem hlt⟩
      obtain ⟨g1, o1, rfl, c0, c1, c2, c3, c4, l1⟩ := el hr0 hx
      simp only at c0 c1 c2 c3 c4
      have hd : l.drop q = (x0, x1, x2, x3, x4) :: l.drop (q + 1) := by rw [List.drop_eq_getElem_cons hlt, (List.getElem?_eq_some_iff.1 hx).2]
      cases he : (x0.toList == k.toList) with
      | true =>
        have E := mkHid (show findP l k = some (x0, x1, x2, x3, x4) by rw [hF.out, hd]; unfold findP; rw [List.find?_cons_of_pos (by exact he)])
        have HB := mkHid (below5 HB0.out (Nat.le_refl _) (.string x0) (.string x1) (.int .i64 x2) (.int .i64 x3) (.int .i64 x4))
        clear hF hd hx HB0
        go_wp2
        refine bodyPost_ret (v := .tuple #[.agg #[.string x0, .string x1, .int .i64 x2, .int .i64 x3, .int .i64 x4], .bool true]) ?_ rfl ?_
        rotate_left
        · exact ⟨.inl ⟨_, _, _, _, _, E.out, rfl⟩, HB.out⟩
        · simp [results, Tryz.results37, go_sem, z0, z1, z2, z3, z4]
      | false =>
        have N1 := mkHid (show findP l k = findP (l.drop (q + 1)) k by rw [hF.out, hd]; unfold findP; rw [List.find?_cons_of_neg (by rw [he]; simp)])
        clear hF hd hx
        go_wp2
        go_roundw
        case rel => exact ⟨q + 1, by omega, by go_num, by first | rfl | trivial, N1⟩
        case measure => simp [intOf]; omega
    · obtain rfl : q = l.length := by omega
      have E := mkHid (show findP l k = none by rw [hF.out, List.drop_of_length_le (Nat.le_refl _)]; rfl)
      have HB := mkHid (below5 HB0.out (Nat.le_refl _) (.string ⟨#[]⟩) (.string ⟨#[]⟩) (.int .i64 0) (.int .i64 0) (.int .i64 0))
      clear hF HB0
      go_wp2
      refine bodyPost_ret (v := .tuple #[.agg #[.string ⟨#[]⟩, .string ⟨#[]⟩, .int .i64 0, .int .i64 0, .int .i64 0], .bool false]) ?_ rfl ?_
      rotate_left
      · exact ⟨.inr ⟨E.out, rfl⟩, HB.out⟩
      · simp [results, Tryz.results37, go_sem, z0, z1, z2, z3, z4]

set_option maxRecDepth 100000 in
set_option maxHeartbeats 2000000 in
theorem placesFindS_any (a : Option Addr) (c : Nat) (l : List Pl) (k : ByteArray) (w : World) (hl : l.length ≤ 1048576) (hs : Small l) (hk : k.size ≤ 1048576) (hr : Rd w a (cs l)) :
    Calls Tryz.prog 12 #[.slice a l.length c, .string k] w fun e w' => e = .returned (outV (findA l k)) ∧ Below w.heap.size w w' := by
  have hr0 := hr.alloc zeroR
  have hb0 := blk_new w zeroR w.heap.size rfl
  have HB0 := mkHid (below_alloc1 w zeroR)
  unfold zeroR at hb0 hr0 HB0
  obtain ⟨z0, z1, z2, z3, z4, z5⟩ := cel6 hb0
  have uf := unfrozen hb0
  have hki : (k.size : Int) ≤ 1048576 := by omega
  by_cases h1 : 400 < l.length
  · have E : Hid (outV (findA l k) = .agg #[.string ⟨#[]⟩, .string ⟨#[]⟩, .int .i64 0, .int .i64 0, .int .i64 0, .int .i64 2]) := mkHid (by unfold findA; rw [if_pos (.inl h1)]; rfl)
    have h1i : (400 : Int) < (l.length : Int) := by omega
    clear hr hr0 hb0 HB0
    go_enter Tryz.func12, Tryz.ntmps12
    go_wp2
    refine bodyPost_ret (v := .agg #[.string ⟨#[]⟩, .string ⟨#[]⟩, .int .i64 0, .int .i64 0, .int .i64 0, .int .i64 2]) ?_ rfl ?_
    rotate_left
    · exact ⟨by rw [E.out], below_alloc1 _ _⟩
    · simp [results, Tryz.results12, go_sem]
  by_cases h2 : 20000 < k.size
  · have E : Hid (outV (findA l k) = .agg #[.string ⟨#[]⟩, .string ⟨#[]⟩, .int .i64 0, .int .i64 0, .int .i64 0, .int .i64 2]) := mkHid (by unfold findA; rw [if_pos (.inr h2)]; rfl)
    have h1i : (l.length : Int) ≤ 400 := by omega
    have h2i : (20000 : Int) < (k.size : Int) := by omega
    clear hr hr0 hb0 HB0
    go_enter Tryz.func12, Tryz.ntmps12
    go_wp2
    refine bodyPost_ret (v := .agg #[.string ⟨#[]⟩, .string ⟨#[]⟩, .int .i64 0, .int .i64 0, .int .i64 0, .int .i64 2]) ?_ rfl ?_
    rotate_left
    · exact ⟨by rw [E.out], below_alloc1 _ _⟩
    · simp [results, Tryz.results12, go_sem]
  have h1i : (l.length : Int) ≤ 400 := by omega
  have h2i : (k.size : Int) ≤ 20000 := by omega
  have HR := mkHid (fun wx (hb : Below w.heap.size w wx) => rightS_any a c l wx hl hs (hr.below hb))
  cases hp : placesB l with
  | false =>
    rw [hp] at HR
    have E : Hid (outV (findA l k) = .agg #[.string ⟨#[]⟩, .string ⟨#[]⟩, .int .i64 0, .int .i64 0, .int .i64 0, .int .i64 1]) := mkHid (by unfold findA; rw [if_neg (by omega), if_pos hp]; rfl)
    have hb1 := mkHid hb0
    clear z0 z1 z2 z3 z4 z5 uf hr hr0 hb0
    go_enter Tryz.func12, Tryz.ntmps12
    go_wp2_with fail
    refine (HR.out _ HB0.out).mono ?_
    rintro e w1 ⟨rfl, hbw⟩
    have hb2 := blk_below hb1.out hbw
    have HB2 := mkHid (below_trans HB0.out hbw)
    obtain ⟨z0, z1, z2, z3, z4, z5⟩ := cel6 hb2
    have uf := unfrozen hb2
    have HB := mkHid (below6 HB2.out (Nat.le_refl _) (.string ⟨#[]⟩) (.string ⟨#[]⟩) (.int .i64 0) (.int .i64 0) (.int .i64 0) (.int .i64 1))
    clear hbw hb2 hb1 HB0 HR
    go_wp2
    refine bodyPost_ret (v := .agg #[.string ⟨#[]⟩, .string ⟨#[]⟩, .int .i64 0, .int .i64 0, .int .i64 0, .int .i64 1]) ?_ rfl ?_
    rotate_left
    · exact ⟨by rw [E.out], HB.out⟩
    · simp [results, Tryz.results12, go_sem, z0, z1, z2, z3, z4, z5]
  | true =>
    rw [hp] at HR
    have HF := mkHid (fun wx (hb : Below w.heap.size w wx) => findS_any a c l k wx hl (hr.below hb))
    have hb1 := mkHid hb0
    clear z0 z1 z2 z3 z4 z5 uf hr hr0 hb0
    go_enter Tryz.func12, Tryz.ntmps12
    go_wp2_with fail
    refine (HR.out _ HB0.out).mono ?_
    rintro e w1 ⟨rfl, hbw⟩
    have hb2 := mkHid (blk_below hb1.out hbw)
    have HB2 := mkHid (below_trans HB0.out hbw)
    clear hbw hb1 HB0 HR
    go_wp2_with fail
    refine (HF.out _ HB2.out).mono ?_
    rintro e w2 ⟨⟨x0, x1, x2, x3, x4, hf, rfl⟩ | ⟨hf, rfl⟩, hbw⟩
    · have E : Hid (outV (findA l k) = .agg #[.string x0, .string x1, .int .i64 x2, .int .i64 x3, .int .i64 x4, .int .i64 0]) := mkHid (by unfold findA; rw [if_neg (by omega), if_neg (by rw [hp]; simp), hf]; rfl)
      have hb3 := blk_old (blk_below hb2.out hbw) (.cells #[.string x0, .string x1, .int .i64 x2, .int .i64 x3, .int .i64 x4] 33)
      have HB3 := mkHid (below_trans HB2.out hbw)
      have HB4 := mkHid (HB3.out.alloc HB3.out.size (.cells #[.string x0, .string x1, .int .i64 x2, .int .i64 x3, .int .i64 x4] 33))
      obtain ⟨z0, z1, z2, z3, z4, z5⟩ := cel6 hb3
      have uf := unfrozen hb3
      have HB := mkHid (below6 HB4.out (Nat.le_refl _) (.string x0) (.string x1) (.int .i64 x2) (.int .i64 x3) (.int .i64 x4) (.int .i64 0))
      have hsz := hbw.size
      have hsz2 := HB2.out.size
      clear hbw hb3 hb2 HB2 HF hf HB3 HB4
      go_wp2
      refine bodyPost_ret (v := .agg #[.string x0, .string x1, .int .i64 x2, .int .i64 x3, .int .i64 x4, .int .i64 0]) ?_ rfl ?_
      rotate_left
      · exact ⟨by rw [E.out], HB.out⟩
      · simp [results, Tryz.results12, go_sem, z0, z1, z2, z3, z4, z5]
    · have E : Hid (outV (findA l k) = .agg #[.string ⟨#[]⟩, .string ⟨#[]⟩, .int .i64 0, .int .i64 0, .int .i64 0, .int .i64 8]) := mkHid (by unfold findA; rw [if_neg (by omega), if_neg (by rw [hp]; simp), hf]; rfl)
      have hb3 := blk_old (blk_below hb2.out hbw) (.cells #[.string ⟨#[]⟩, .string ⟨#[]⟩, .int .i64 0, .int .i64 0, .int .i64 0] 33)
      have HB3 := mkHid (below_trans HB2.out hbw)
      have HB4 := mkHid (HB3.out.alloc HB3.out.size (.cells #[.string ⟨#[]⟩, .string ⟨#[]⟩, .int .i64 0, .int .i64 0, .int .i64 0] 33))
      obtain ⟨z0, z1, z2, z3, z4, z5⟩ := cel6 hb3
      have uf := unfrozen hb3
      have HB := mkHid (below6 HB4.out (Nat.le_refl _) (.string ⟨#[]⟩) (.string ⟨#[]⟩) (.int .i64 0) (.int .i64 0) (.int .i64 0) (.int .i64 8))
      have hsz := hbw.size
      have hsz2 := HB2.out.size
      clear hbw hb3 hb2 HB2 HF hf HB3 HB4
      go_wp2
      refine bodyPost_ret (v := .agg #[.string ⟨#[]⟩, .string ⟨#[]⟩, .int .i64 0, .int .i64 0, .int .i64 0, .int .i64 8]) ?_ rfl ?_
      rotate_left
      · exact ⟨by rw [E.out], HB.out⟩
      · simp [results, Tryz.results12, go_sem, z0, z1, z2, z3, z4, z5]
end Go.Proofs.YtmoojhnblakdhaaGreat.plc
namespace Go.Proofs.YtmoojhnblakdhaaGreat.plc
open Go.RowKit Go.Joins Go.Sort Go.Maps
open Go.Proofs.YtmoojhnblakdhaaGreat.base Go.Proofs.YtmoojhnblakdhaaGreat.blk Go.Proofs.YtmoojhnblakdhaaGreat.aid
open Go.Proofs.YtmoojhnblakdhaaGreat.row (Rd Own OwnV appSem app_fold)
open Go.Proofs.YtmoojhnblakdhaaGreat.rwPlace (cs el)
set_option linter.unusedVariables false
set_option linter.unusedSimpArgs false

def updSem (t : TypeId) (m k v : Value) : Sem Unit := Instr.mapUpdate t m k v
theorem upd_fold (t : TypeId) (m k v : Value) : Instr.mapUpdate t m k v = updSem t m k v := rfl
attribute [local go_sem ↓] upd_fold
theorem zeroV (w : World) : (zeroValue 33).run Tryz.prog w = .ok (.agg #[.string ⟨#[]⟩, .string ⟨#[]⟩, .int .i64 0, .int .i64 0, .int .i64 0]) w := by kernel_rfl
theorem zeroR_is : R (.agg #[.string ⟨#[]⟩, .string ⟨#[]⟩, .int .i64 0, .int .i64 0, .int .i64 0]) = some (dat zeroP, []) := rfl
/-- a place is looked for in the map: is it there? -/
theorem wpList_lookup_pl (w : World) {ops : Array Oper} {rest : List Oper} {o : Oper} {a : Act} {Q : Exit → Act → World → Prop} (hg : o.guard = none) (m x : Operand) (hop : o.op = Op.lookup 69 m x true)
    (b n : Nat) (D : DataW Unit) (hm : a.eval m = .map (some b)) (hown : w.ownsMap Tryz.prog 73 R b n D) (L : List Pl) (hM : HoldsM D L) (s0 s1 : ByteArray) (h0 : s0.size ≤ 1048576) (h1 : s1.size ≤ 1048576) (hx : a.eval x = .agg #[.string s0, .string s1]) (r : Bool) (hr : hasS L (s0, s1) = r)
    (hK : ∀ (q0 q1 : ByteArray) (q2 q3 q4 : Int), wpList Tryz.prog ops Q rest (a.put o.dst (.tuple #[.agg #[.string q0, .string q1, .int .i64 q2, .int .i64 q3, .int .i64 q4], .bool r])) w) :
    wpList Tryz.prog ops Q (o :: rest) a w :=
  wpList_lookup_own_ok w hg m x 69 hop 73 33 lawK Tryz.underlying69 R (zeroV w) (dat zeroP) [] zeroR_is b n D hm hown (keyV (s0, s1)) (kl (s0, s1)) hx (keyOf_spot _ (fit_max h0) (fit_max h1)) (fun v ps hv => by
    obtain ⟨⟨q0, q1, q2, q3, q4⟩, rfl, _⟩ := R_inv hv
    rw [hM.hasS (s0, s1) h0 h1, hr]
    exact hK q0 q1 q2 q3 q4)
theorem rd_owns {w : World} {base T n size c : Nat} {a : Option Addr} {xs : List Value} (h : w.ownsRow base T size (.slice a n c) n xs) : Rd w a xs := by
  rcases h.2 with ⟨h1, h2⟩ | ⟨g, cap, cur, h1, _⟩
  · have hl := h.1
    rw [h2, Nat.zero_mul] at hl
    rw [List.eq_nil_of_length_eq_zero hl]
    exact Rd.nil _ _
  · simp at h1
    obtain ⟨rfl, _⟩ := h1
    exact (Own.owns h).rd
theorem rd_grew {w w' : World} {a : Option Addr} {xs : List Value} {r : Option Nat} (h : Rd w a xs) (hg : w.grownBy w' r) (hr : ∀ b o s, a = some ⟨b, o, s⟩ → some b ≠ r) : Rd w' a xs :=
  h.block (fun b off e hl => hg.block b hl (hr b off none e))
/-- what holds on the way -/
structure Bs (w : World) (B : Nat) (a1 : Option Addr) (all : List Pl) (k n : Nat) (D : DataW Unit) (wr : World) : Prop where
  own : wr.ownsMap Tryz.prog 73 R B n D
  holds : HoldsM D (firsts (all.take k))
  few : n ≤ k
  rd : Rd wr a1 (cs all)
  below : Below w.heap.size w wr
theorem Bs.next {w wr w1 : World} {B k n : Nat} {a1 : Option Addr} {all : List Pl} {D : DataW Unit} (h : Bs w B a1 all k n D wr) (hb : Below wr.heap.size wr w1) : Bs w B a1 all k n D w1 :=
  ⟨h.own.kept (below_grew hb none) (by simp), h.holds, h.few, h.rd.below hb, below_trans h.below hb⟩
theorem Bs.alloc {w wr : World} {B k n : Nat} {a1 : Option Addr} {all : List Pl} {D : DataW Unit} (h : Bs w B a1 all k n D wr) (o : Obj) : Bs w B a1 all k n D (wr.alloc o) := h.next (below_alloc1 wr o)
theorem firsts_take {all : List Pl} {k : Nat} {x : Pl} (hx : all[k]? = some x) : firsts (all.take (k + 1)) = fst1 (firsts (all.take k)) x := by
  rw [List.take_add_one, hx]
  exact firsts_snoc _ _
set_option maxRecDepth 100000 in
set_option maxHeartbeats 4000000 in
theorem bySpot_any (a0 : Option Addr) (c0 : Nat) (ls : List (Option Addr × Nat × List Pl)) (w : World) (hr : Rd w a0 (ls.map sv)) (hls : ∀ x ∈ ls, Rd w x.1 (cs x.2.2)) (hn : ls.length ≤ 100) (ht : (allP ls).length ≤ 1048576) (hf : Fits (allP ls)) :
    Calls Tryz.prog 40 #[.slice a0 ls.length c0] w fun e w' => ∃ b n D, e = .returned (.map (some b)) ∧ w'.ownsMap Tryz.prog 73 R b n D ∧ HoldsM D (firsts (allP ls)) ∧ n ≤ (allP ls).length ∧ w.heap.size ≤ b ∧ Below w.heap.size w w' := by
  have hmm := @run_makeMap Tryz.prog
  have HC := mkHid (concat_any a0 c0 ls (w.alloc (.map #[] 0)) (hr.alloc _) (fun x hx => (hls x hx).alloc _) hn ht)
  have B0 := mkHid (below_alloc1 w (.map #[] 0))
  have M0 := mkHid (World.ownsMap_made w Tryz.prog 73 R)
  have HF := mkHid hf
  clear hr hls hf
  generalize allP ls = all at *
  go_enter Tryz.func40, Tryz.ntmps40
  go_wp2_with fail
  refine HC.out.mono ?_
  rintro e w1 ⟨v, rfl, hown, hb⟩
  obtain ⟨a1, c1, rfl⟩ := slice_of hown
  have hti : (all.length : Int) ≤ 1048576 := by omega
  have hoff : ∀ b o s, a1 = some ⟨b, o, s⟩ → some b ≠ some w.heap.size := by
    intro b o s e he
    have h1 := (hown.lt b (by rw [e]; rfl)).1
    simp at he h1
    omega
  have S0 : Hid (Bs w w.heap.size a1 all 0 0 (.map []) w1) := mkHid ⟨M0.out.kept (below_grew hb none) (by simp), HoldsM.nil, Nat.le_refl _, rd_owns hown, below_trans B0.out hb⟩
  have HOff := mkHid hoff
  clear hown hb M0 B0 HC hoff
  go_wp2_with fail
  go_loopw [5, 6, 7, 12] (fun p5 p6 p7 i wr => ∃ (k n : Nat) (D : DataW Unit), k ≤ all.length ∧ i = .int .i64 k ∧ Hid (Bs w w.heap.size a1 all k n D wr))
    (fun _ _ _ i _ => all.length - (intOf i).toNat)
  case atStart => exact ⟨0, 0, .map [], Nat.zero_le _, rfl, S0⟩
  case round =>
    obtain ⟨k, n, D, hk, rfl, S⟩ := hrel
    clear S0
    by_cases hlt : k < all.length
    · have hlti : (k : Int) < (all.length : Int) := by omega
      obtain ⟨⟨x0, x1, x2, x3, x4⟩, hx⟩ : ∃ y, all[k]? = some y := ⟨_, List.getElem?_eq_getElem hlt⟩
      obtain ⟨g1, o1, rfl, c0, c1, c2, c3, c4, l1⟩ := el S.out.rd hx
      have hft := firsts_take hx
      have hBlt := S.out.own.lt
      have hfx := HF.out _ (List.mem_of_getElem? hx)
      simp only at c0 c1 c2 c3 c4 hfx
      have S1 := mkHid (S.out.alloc (.cells #[.string x0, .string x1, .int .i64 x2, .int .i64 x3, .int .i64 x4] 33))
      have b1 := mkHid (blk_new wr (.cells #[.string x0, .string x1, .int .i64 x2, .int .i64 x3, .int .i64 x4] 33) wr.heap.size rfl)
      have HSp := mkHid (fun wx => spot_any x0 x1 x2 x3 x4 wx)
      cases hh : hasS (firsts (all.take k)) (x0, x1) with
      | true =>
        have E := mkHid (show firsts (all.take (k + 1)) = firsts (all.take k) by rw [hft]; unfold fst1; rw [if_pos hh])
        clear hft hx S
        go_wp2_with fail
        refine (HSp.out _).mono ?_
        rintro e w2 ⟨rfl, rfl⟩
        have S2 := mkHid ((S1.out.alloc (.cells #[.string x0, .string x1, .int .i64 x2, .int .i64 x3, .int .i64 x4] 33)).alloc (.cells #[.string x0, .string x1] 73))
        have HH := mkHid hh
        clear S1 b1 HSp c0 c1 c2 c3 c4 hh
        generalize ((wr.alloc (.cells #[.string x0, .string x1, .int .i64 x2, .int .i64 x3, .int .i64 x4] 33)).alloc (.cells #[.string x0, .string x1, .int .i64 x2, .int .i64 x3, .int .i64 x4] 33)).alloc (.cells #[.string x0, .string x1] 73) = w2 at *
        go_wp2_with (first | (at_lookup; refine wpList_lookup_pl _ rfl _ _ rfl w.heap.size n D rfl S2.out.own _ S2.out.holds x0 x1 hfx.1 hfx.2 rfl true HH.out ?_; intro q0 q1 q2 q3 q4) | fail)
        have S3 : Hid (Bs w w.heap.size (some ⟨g1, o1, none⟩) all (k + 1) n D (w2.alloc (.cells #[.string q0, .string q1, .int .i64 q2, .int .i64 q3, .int .i64 q4] 33))) := mkHid (by
          have h := S2.out.alloc (.cells #[.string q0, .string q1, .int .i64 q2, .int .i64 q3, .int .i64 q4] 33)
          exact ⟨h.own, by rw [E.out]; exact h.holds, Nat.le_succ_of_le h.few, h.rd, h.below⟩)
        go_roundw
        case rel => exact ⟨k + 1, n, D, by omega, by go_num, S3⟩
        case measure => simp [intOf]; omega
      | false =>
        have hno := (hasS_not _ _).1 hh
        have E := mkHid (show firsts (all.take (k + 1)) = firsts (all.take k) ++ [(x0, x1, x2, x3, x4)] by rw [hft]; exact fst1_no hno)
        have HNo := mkHid hno
        have hkn : k < maxLen := by unfold maxLen; omega
        clear hft hx S hno
        go_wp2_with fail
        refine (HSp.out _).mono ?_
        rintro e w2 ⟨rfl, rfl⟩
        have S2 := mkHid ((S1.out.alloc (.cells #[.string x0, .string x1, .int .i64 x2, .int .i64 x3, .int .i64 x4] 33)).alloc (.cells #[.string x0, .string x1] 73))
        have b2 := mkHid (blk_old (blk_old b1.out (.cells #[.string x0, .string x1, .int .i64 x2, .int .i64 x3, .int .i64 x4] 33)) (.cells #[.string x0, .string x1] 73))
        have HH := mkHid hh
        clear S1 b1 c0 c1 c2 c3 c4 hh
        generalize ((wr.alloc (.cells #[.string x0, .string x1, .int .i64 x2, .int .i64 x3, .int .i64 x4] 33)).alloc (.cells #[.string x0, .string x1, .int .i64 x2, .int .i64 x3, .int .i64 x4] 33)).alloc (.cells #[.string x0, .string x1] 73) = w2 at *
        go_wp2_with (first | (at_lookup; refine wpList_lookup_pl _ rfl _ _ rfl w.heap.size n D rfl S2.out.own _ S2.out.holds x0 x1 hfx.1 hfx.2 rfl false HH.out ?_; intro q0 q1 q2 q3 q4) | fail)
        have S3 := mkHid (S2.out.alloc (.cells #[.string q0, .string q1, .int .i64 q2, .int .i64 q3, .int .i64 q4] 33))
        have b3 := mkHid (blk_old b2.out (.cells #[.string q0, .string q1, .int .i64 q2, .int .i64 q3, .int .i64 q4] 33))
        clear S2 b2
        generalize w2.alloc (.cells #[.string q0, .string q1, .int .i64 q2, .int .i64 q3, .int .i64 q4] 33) = w3 at *
        obtain ⟨e0, e1, e2, e3, e4⟩ := cel5 b3.out
        have HSb := mkHid (fun wx => (HSp.out wx).mono (fun e w' h => And.intro h.1 (show Below wx.heap.size wx w' by rw [h.2]; exact rwPlace.below2 _ _ _)))
        go_region_held3 (fun w' => w'.cell? ⟨wr.heap.size, 0, none⟩ = some (.string x0) ∧ w'.cell? ⟨wr.heap.size, 1, none⟩ = some (.string x1) ∧ w'.cell? ⟨wr.heap.size, 2, none⟩ = some (.int .i64 x2) ∧ w'.cell? ⟨wr.heap.size, 3, none⟩ = some (.int .i64 x3) ∧ w'.cell? ⟨wr.heap.size, 4, none⟩ = some (.int .i64 x4)) (go_keep)
          ((go_at_call 66; refine Calls.mono (HSb.out _) ?_; rintro e w4 ⟨rfl, hw4⟩; have r4 := re (w := w3) hw4 rfl rfl rfl rfl; have S4 := mkHid (S3.out.next r4); have b4 := mkHid (blk_below b3.out r4); clear hw4 r4; obtain ⟨f0, f1, f2, f3, f4⟩ := cel5 b4.out; obtain ⟨w5, hrun, hown5, hg5⟩ := S4.out.own.update lawK Tryz.underlying69 (Nat.lt_of_le_of_lt S4.out.few hkn) (keyOf_spot (x0, x1) (fit_max hfx.1) (fit_max hfx.2)) (R_mk (x0, x1, x2, x3, x4)); have S5 := mkHid (And.intro hown5 hg5); have b5 := mkHid ((hg5.block wr.heap.size (Array.getElem?_eq_some_iff.1 b4.out).1 (by simp; omega)).trans b4.out); obtain ⟨i0, i1, i2, i3, i4⟩ := cel5 b5.out; clear hown5 hg5; unfold keyV plV at hrun; simp only at hrun; rw [upd_fold] at hrun))
        have S6 : Hid (Bs w w.heap.size (some ⟨g1, o1, none⟩) all (k + 1) (n + 1) (D.put (kl (x0, x1)) (dat (x0, x1, x2, x3, x4))) w5) := mkHid ⟨S5.out.1, by rw [E.out]; exact S4.out.holds.put (x0, x1, x2, x3, x4) HNo.out hfx.1 hfx.2, by have := S4.out.few; omega, rd_grew S4.out.rd S5.out.2 HOff.out, S4.out.below.grown S5.out.2 S4.out.below.size (fun j hj => by cases hj; exact Nat.le_refl _)⟩
        clear S3 S4 S5 b3 b4 b5 hrun HSb HSp E HNo HH
        go_wp2
        go_roundw
        case rel => exact ⟨k + 1, n + 1, _, by omega, by go_num, S6⟩
        case measure => simp [intOf]; omega
    · obtain rfl : k = all.length := by omega
      have S4 := S.out.holds
      rw [List.take_of_length_le (Nat.le_refl _)] at S4
      have S5 := mkHid S4
      clear S4
      go_wp2
      go_ret
      exact ⟨_, n, D, rfl, S.out.own, S5.out, S.out.few, Nat.le_refl _, S.out.below⟩
end Go.Proofs.YtmoojhnblakdhaaGreat.plc
namespace Go.Proofs.YtmoojhnblakdhaaGreat.plc
open Go.RowKit Go.Joins Go.Sort
open Go.Proofs.YtmoojhnblakdhaaGreat.base Go.Proofs.YtmoojhnblakdhaaGreat.blk Go.Proofs.YtmoojhnblakdhaaGreat.aid
open Go.Proofs.YtmoojhnblakdhaaGreat.row (Rd Own OwnV)
open Go.Proofs.YtmoojhnblakdhaaGreat.rwPlace (cs el)
set_option linter.unusedVariables false
set_option linter.unusedSimpArgs false

/-- what PlacesAdd answers -/
def addA (a b : List Pl) : List Pl × Int :=
  if 400 < a.length ∨ 400 < b.length then ([], 2) else if placesB a = false ∨ placesB b = false then ([], 1) else if 300 < (b.foldl put a).length then ([], 11) else (b.foldl put a, 0)
theorem puts_le : ∀ (b a : List Pl), (b.foldl put a).length ≤ a.length + b.length
  | [], a => by simp
  | x :: b, a => by
    have h := puts_le b (put a x)
    have h2 := put_len a x
    simp only [List.foldl_cons, List.length_cons]
    omega
theorem addA_len (a b : List Pl) : (addA a b).1.length ≤ 300 := by
  unfold addA
  split
  · simp
  split
  · simp
  split
  · simp
  · simp only; omega
/-- what holds on the way -/
structure As (w : World) (a b acc : List Pl) (k : Nat) (a' : Option Addr) (c' : Nat) (wr : World) : Prop where
  eq : acc = (b.take k).foldl put a
  rd : Rd wr a' (cs acc)
  fresh : ∀ g o s, a' = some ⟨g, o, s⟩ → w.heap.size + 1 ≤ g
  cap : acc.length ≤ c'
  out : wr.heap[w.heap.size]? = some (.cells #[.slice none 0 0, .int .i64 0] 29)
  below : Below w.heap.size w wr
theorem puts_take {b : List Pl} {k : Nat} {x : Pl} (hx : b[k]? = some x) (a : List Pl) : (b.take (k + 1)).foldl put a = put ((b.take k).foldl put a) x := by
  rw [List.take_add_one, hx, List.foldl_append]
  rfl
theorem ite3 {α : Type} {p q r : Prop} [Decidable p] [Decidable q] [Decidable r] {x y z u : α} (hp : ¬ p) (hq : ¬ q) (hr : ¬ r) : (if p then x else if q then y else if r then z else u) = u := by rw [if_neg hp, if_neg hq, if_neg hr]
set_option maxRecDepth 100000 in
set_option maxHeartbeats 4000000 in
theorem addS_any (a0 : Option Addr) (c0 : Nat) (l : List Pl) (a1 : Option Addr) (c1 : Nat) (m : List Pl) (w : World) (hl : l.length ≤ 1048576) (hs : Small l) (hr : Rd w a0 (cs l)) (hm : m.length ≤ 1048576) (hs1 : Small m) (hr1 : Rd w a1 (cs m)) :
    Calls Tryz.prog 42 #[.slice a0 l.length c0, .slice a1 m.length c1] w (APost w (addA l m)) := by
  have hb0 := blk_new w zeroA w.heap.size rfl
  have HB0 := mkHid (below_alloc1 w zeroA)
  unfold zeroA at hb0 HB0
  obtain ⟨z0, z1⟩ := cel2 hb0
  have uf := unfrozen hb0
  have hli : (l.length : Int) ≤ 1048576 := by omega
  have hmi : (m.length : Int) ≤ 1048576 := by omega
  by_cases h1 : 400 < l.length
  · have F : Hid (APost w (addA l m) _ _) := mkHid (apost_new (k := 2) (by unfold addA; rw [if_pos (.inl h1)]))
    have h1i : (400 : Int) < (l.length : Int) := by omega
    clear hr hr1 hb0 HB0 z0 z1 uf
    go_enter Tryz.func42, Tryz.ntmps42
    go_wp2
    refine bodyPost_ret (v := .agg #[.slice none 0 0, .int .i64 2]) ?_ rfl F.out
    simp [results, Tryz.results42, go_sem]
  have h1i : (l.length : Int) ≤ 400 := by omega
  by_cases h2 : 400 < m.length
  · have F : Hid (APost w (addA l m) _ _) := mkHid (apost_new (k := 2) (by unfold addA; rw [if_pos (.inr h2)]))
    have h2i : (400 : Int) < (m.length : Int) := by omega
    clear hr hr1 hb0 HB0 z0 z1 uf
    go_enter Tryz.func42, Tryz.ntmps42
    go_wp2
    refine bodyPost_ret (v := .agg #[.slice none 0 0, .int .i64 2]) ?_ rfl F.out
    simp [results, Tryz.results42, go_sem]
  have h2i : (m.length : Int) ≤ 400 := by omega
  have HR := mkHid (fun wx (hb : Below w.heap.size w wx) => rightS_any a0 c0 l wx hl hs (hr.below hb))
  have HR1 := mkHid (fun wx (hb : Below w.heap.size w wx) => rightS_any a1 c1 m wx hm hs1 (hr1.below hb))
  have hbk := mkHid hb0
  clear z0 z1 uf hb0
  cases hp : placesB l with
  | false =>
    rw [hp] at HR
    have HE := mkHid (show addA l m = ([], 1) by unfold addA; rw [if_neg (by omega), if_pos (.inl hp)])
    clear hr hr1 HR1
    go_enter Tryz.func42, Tryz.ntmps42
    go_wp2_with fail
    refine (HR.out _ HB0.out).mono ?_
    rintro e w1 ⟨rfl, hbw⟩
    have hb2 := blk_below hbk.out hbw
    obtain ⟨z0, z1⟩ := cel2 hb2
    have uf := unfrozen hb2
    have F : Hid (APost w (addA l m) _ _) := mkHid (apost_no (k := 1) (below_trans HB0.out hbw) HE.out)
    clear hbw hb2 HB0 HR HE hbk
    go_wp2
    refine bodyPost_ret (v := .agg #[.slice none 0 0, .int .i64 1]) ?_ rfl F.out
    simp [results, Tryz.results42, go_sem, z0, z1]
  | true =>
    rw [hp] at HR
    cases hq : placesB m with
    | false =>
      rw [hq] at HR1
      have HE := mkHid (show addA l m = ([], 1) by unfold addA; rw [if_neg (by omega), if_pos (.inr hq)])
      clear hr hr1
      go_enter Tryz.func42, Tryz.ntmps42
      go_wp2_with fail
      refine (HR.out _ HB0.out).mono ?_
      rintro e w1 ⟨rfl, hbw⟩
      have hb2 := mkHid (blk_below hbk.out hbw)
      have HB1 := mkHid (below_trans HB0.out hbw)
      clear hbw HB0 hbk
      go_wp2_with fail
      refine (HR1.out _ HB1.out).mono ?_
      rintro e w2 ⟨rfl, hbw⟩
      have hb3 := blk_below hb2.out hbw
      obtain ⟨z0, z1⟩ := cel2 hb3
      have uf := unfrozen hb3
      have F : Hid (APost w (addA l m) _ _) := mkHid (apost_no (k := 1) (below_trans HB1.out hbw) HE.out)
      clear hbw hb2 hb3 HB1 HR HR1 HE
      go_wp2
      refine bodyPost_ret (v := .agg #[.slice none 0 0, .int .i64 1]) ?_ rfl F.out
      simp [results, Tryz.results42, go_sem, z0, z1]
    | true =>
      rw [hq] at HR1
      have HA3 := mkHid (show ¬ 300 < (m.foldl put l).length → addA l m = (m.foldl put l, 0) from fun h => by unfold addA; rw [if_neg (by omega), if_neg (by rw [hp, hq]; simp), if_neg h])
      have HE3 := mkHid (show 300 < (m.foldl put l).length → addA l m = ([], 11) from fun h => by unfold addA; rw [if_neg (by omega), if_neg (by rw [hp, hq]; simp), if_pos h])
      have HC := mkHid (fun wx (hb : Below w.heap.size w wx) => copyS_any a0 c0 l wx hl (hr.below hb))
      have HRm := mkHid (fun wx (hb : Below w.heap.size w wx) => hr1.below hb)
      clear hr hr1 hp hq
      go_enter Tryz.func42, Tryz.ntmps42
      go_wp2_with fail
      refine (HR.out _ HB0.out).mono ?_
      rintro e w1 ⟨rfl, hbw⟩
      have hb2 := mkHid (blk_below hbk.out hbw)
      have HB1 := mkHid (below_trans HB0.out hbw)
      clear hbw HB0 hbk HR
      go_wp2_with fail
      refine (HR1.out _ HB1.out).mono ?_
      rintro e w2 ⟨rfl, hbw⟩
      have hb3 := mkHid (blk_below hb2.out hbw)
      have HB2 := mkHid (below_trans HB1.out hbw)
      clear hbw HB1 hb2 HR1
      go_wp2_with fail
      refine (HC.out _ HB2.out).mono ?_
      rintro e w3 ⟨a', c', rfl, hrd, hf, hbw, hc⟩
      have hsz2 : w.heap.size + 1 ≤ w2.heap.size := (Array.getElem?_eq_some_iff.1 hb3.out).1
      have S0 : Hid (As w l m l 0 a' c' w3) := mkHid ⟨by simp, hrd, fun g o s e => Nat.le_trans hsz2 (hf g o s e), hc, blk_below hb3.out hbw, below_trans HB2.out hbw⟩
      clear hrd hf hbw hc hsz2 HB2 hb3 HC
      go_wp2_with fail
      go_loopw [5, 6] (fun v i wr => ∃ (k : Nat) (acc : List Pl) (a' : Option Addr) (c' : Nat), k ≤ m.length ∧ i = .int .i64 k ∧ v = .slice a' acc.length c' ∧ Hid (As w l m acc k a' c' wr))
        (fun _ i _ => m.length - (intOf i).toNat)
      case atStart => exact ⟨0, l, a', c', Nat.zero_le _, rfl, rfl, S0⟩
      case round =>
        obtain ⟨k, acc, aa, ca, hk, rfl, rfl, S⟩ := hrel
        clear S0
        have hal : acc.length ≤ 800 := by
          have h := puts_le (m.take k) l
          rw [S.out.eq]
          have : (m.take k).length ≤ m.length := by simp; omega
          omega
        have hali : (acc.length : Int) ≤ 800 := by omega
        by_cases hlt : k < m.length
        · have hlti : (k : Int) < (m.length : Int) := by omega
          obtain ⟨⟨x0, x1, x2, x3, x4⟩, hx⟩ : ∃ y, m[k]? = some y := ⟨_, List.getElem?_eq_getElem hlt⟩
          obtain ⟨g1, o1, rfl, d0, d1, d2, d3, d4, l1⟩ := el (HRm.out _ S.out.below) hx
          simp only at d0 d1 d2 d3 d4
          have HP := mkHid (putS_any aa ca acc x0 x1 x2 x3 x4 wr (by omega) S.out.cap S.out.rd)
          have hx1 := mkHid hx
          clear hx
          go_wp2_with fail
          refine HP.out.mono ?_
          rintro e w4 ⟨a4, c4, rfl, hrd, hf, hbw, hc⟩
          have N1 : Hid (As w l m (put acc (x0, x1, x2, x3, x4)) (k + 1) a4 c4 w4) := mkHid ⟨by rw [puts_take hx1.out, ← S.out.eq], hrd, fun g o s e => by
            rcases hf with hf | hf
            · rw [hf] at e
              exact S.out.fresh g o s e
            · have h1 := hf g o s e
              have h2 := (Array.getElem?_eq_some_iff.1 S.out.out).1
              omega, hc, blk_below S.out.out hbw, below_trans S.out.below hbw⟩
          clear hrd hf hbw hc HP hx1 S
          go_wp2
          go_roundw
          case rel => exact ⟨k + 1, _, a4, c4, by omega, by go_num, rfl, N1⟩
          case measure => simp [intOf]; omega
        · obtain rfl : k = m.length := by omega
          have hacc := S.out.eq
          rw [List.take_of_length_le (Nat.le_refl _)] at hacc
          obtain ⟨z0, z1⟩ := cel2 S.out.out
          have uf := unfrozen S.out.out
          by_cases h3 : 300 < acc.length
          · have h3i : (300 : Int) < (acc.length : Int) := by omega
            have F : Hid (APost w (addA l m) _ _) := mkHid (apost_no (k := 11) S.out.below (HE3.out (by rw [← hacc]; exact h3)))
            clear S hacc HE3 HA3
            go_wp2
            refine bodyPost_ret (v := .agg #[.slice none 0 0, .int .i64 11]) ?_ rfl F.out
            simp [results, Tryz.results42, go_sem, z0, z1]
          · have h3i : (acc.length : Int) ≤ 300 := by omega
            have hE : addA l m = (acc, 0) := by rw [HA3.out (by rw [← hacc]; exact h3), hacc]
            have F : Hid (APost w (addA l m) _ _) := mkHid (apost_of (a' := aa) (n := acc.length) (c' := ca) (k := 0) S.out.below (by rw [hE]) (by rw [hE]) (by rw [hE]; exact S.out.rd) S.out.fresh S.out.cap)
            clear S hacc HE3 HA3 hE
            go_wp2
            refine bodyPost_ret (v := .agg #[.slice aa acc.length ca, .int .i64 0]) ?_ rfl F.out
            simp [results, Tryz.results42, go_sem, z0, z1]
end Go.Proofs.YtmoojhnblakdhaaGreat.plc
