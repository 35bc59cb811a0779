/-
  What strings.Compare and impl.comparePlaces answer and leave. No condition.
  Rows of places of our own: append of one place, of a row, of empty ones; parts of a row. No condition.
  What spec.l10Less and spec.PlacesRight answer and leave. Conditions: places that lie in memory, of texts of at most 1,048,576 bytes.
  What spec.l10Put and spec.l10Copy answer and leave. Conditions: places that lie in memory, in a slice that holds them.
-/
import Derived.Test.YtppjbmmeacmoiaaDoorPlcP
import Derived.Lib.Bytealg
import Derived.Lib.AppendZeros
import Derived.Lib.SliceRun
import Derived.Deep.Upon
import Derived.Shelf.SlSortCmp.QuietGrown
namespace Go.Proofs.YtppjbmmeacmoiaaDoor.plc
open Go.RowKit Go.Joins
open Go.Proofs.YtppjbmmeacmoiaaDoor.base Go.Proofs.YtppjbmmeacmoiaaDoor.blk Go.Proofs.YtppjbmmeacmoiaaDoor.aid
open Go.Proofs.YtppjbmmeacmoiaaDoor.ord
set_option linter.unusedVariables false

theorem cel5 {w : World} {g : Nat} {a b c d e : Value} {t : TypeId} {z : Nat × Nat} (h : w.heap[g]? = some (.cells #[a, b, c, d, e] t z)) : w.cell? ⟨g, 0, none⟩ = some a ∧ w.cell? ⟨g, 1, none⟩ = some b ∧ w.cell? ⟨g, 2, none⟩ = some c ∧ w.cell? ⟨g, 3, none⟩ = some d ∧ w.cell? ⟨g, 4, none⟩ = some e := by
  simp [World.cell?, h]
theorem below_drewN {B n : Nat} {w V : World} (h : Below B w V) : Below B w (V.drewN n) := ⟨h.os, h.tape, h.output, h.size, h.block⟩
theorem below_trans {w W V : World} (h : Below w.heap.size w W) (h2 : Below W.heap.size W V) : Below w.heap.size w V := h.trans (h2.mono h.size)
set_option maxRecDepth 100000 in
theorem compareString_any (a b : ByteArray) (w : World) :
    Calls Tryd.prog 57 #[.string a, .string b] w fun e w' => e = .returned (.int .i64 (cmpB a b)) ∧ w' = w := by
  go_enter Tryd.func57, Tryd.ntmps57
  go_wp2
  rw [run_callFunc_extern Tryd.func70 (by kernel_rfl) (by kernel_rfl) (by kernel_rfl) (e := Extern.BytealgCompare.compare) (by kernel_rfl), Lib.run_compareString]
  simp only [Result.andThen]
  rw [Oper.upon_value]
  go_wp2
  go_ret
  exact ⟨rfl, rfl⟩
set_option maxRecDepth 100000 in
theorem compare_any (a b : ByteArray) (w : World) :
    Calls Tryd.prog 38 #[.string a, .string b] w fun e w' => e = .returned (.int .i64 (cmpB a b)) ∧ w' = w := by
  go_enter Tryd.func38, Tryd.ntmps38
  go_wp2_with (go_at_call 57; refine (compareString_any _ _ _).mono ?_; rintro e w' ⟨rfl, rfl⟩)
  go_ret
  exact ⟨rfl, rfl⟩
def plV (p : Pl) : Value := .agg #[.string p.1, .string p.2.1, .int .i64 p.2.2.1, .int .i64 p.2.2.2.1, .int .i64 p.2.2.2.2]
def plO (p : Pl) : Obj := .cells #[.string p.1, .string p.2.1, .int .i64 p.2.2.1, .int .i64 p.2.2.2.1, .int .i64 p.2.2.2.2] 33
/-- two boxes are laid: its parameters -/
theorem comparePlaces_any (a b : Pl) (w : World) :
    Calls Tryd.prog 25 #[plV a, plV b] w fun e w' => e = .returned (.int .i64 (cmpP a b)) ∧ w' = (w.alloc (plO a)).alloc (plO b) := by
  obtain ⟨a0, a1, a2, a3, a4⟩ := a
  obtain ⟨b0, b1, b2, b3, b4⟩ := b
  unfold plV plO
  have HC := mkHid (fun wx => compare_any a0 b0 wx)
  have HD := mkHid (fun wx => compare_any a1 b1 wx)
  by_cases h : cmpB a0 b0 = 0
  · have e : cmpP (a0, a1, a2, a3, a4) (b0, b1, b2, b3, b4) = cmpB a1 b1 := by unfold cmpP; rw [if_pos h]
    rw [e]
    rw [h] at HC
    generalize cmpB a1 b1 = z at *
    clear e h
    go_enter Tryd.func25, Tryd.ntmps25
    go_wp2_with fail
    refine (HC.out _).mono ?_
    rintro e w1 ⟨rfl, rfl⟩
    go_wp2_with fail
    refine (HD.out _).mono ?_
    rintro e w1 ⟨rfl, rfl⟩
    go_wp2
    go_ret
    exact ⟨rfl, rfl⟩
  · have e : cmpP (a0, a1, a2, a3, a4) (b0, b1, b2, b3, b4) = cmpB a0 b0 := by unfold cmpP; rw [if_neg h]
    rw [e]
    have h0 : (cmpB a0 b0 != 0) = true := by simpa using h
    generalize cmpB a0 b0 = z at *
    clear e
    go_enter Tryd.func25, Tryd.ntmps25
    go_wp2_with fail
    refine (HC.out _).mono ?_
    rintro e w1 ⟨rfl, rfl⟩
    go_wp2
    go_ret
    exact ⟨rfl, rfl⟩
end Go.Proofs.YtppjbmmeacmoiaaDoor.plc
namespace Go.Proofs.YtppjbmmeacmoiaaDoor.plc
open Go.RowKit Go.Joins
open Go.Proofs.YtppjbmmeacmoiaaDoor.base Go.Proofs.YtppjbmmeacmoiaaDoor.blk Go.Proofs.YtppjbmmeacmoiaaDoor.aid
open Go.Proofs.YtppjbmmeacmoiaaDoor.row (Rd Own OwnV appSem app_fold)
open Go.Proofs.YtppjbmmeacmoiaaDoor.rwPlace (cs)
set_option linter.unusedVariables false

theorem rd_add {w : World} {ad : Addr} {xs : List Value} (h : Rd w (some ad) xs) : ∀ j u, xs[j]? = some u → w.cell? (ad.add j) = some u := by
  intro j u hj
  obtain ⟨b, off, e, hc⟩ := h j u hj
  simp at e
  subst e
  rw [Addr.add_lit]
  exact hc
theorem cs_one (l : List Pl) : ∀ u ∈ cs l, u.oneCell' = true := by
  intro u hu
  obtain ⟨f, _, hf⟩ := List.mem_flatMap.1 hu
  simp at hf
  rcases hf with rfl | rfl | rfl | rfl | rfl <;> rfl
theorem cap_of {w : World} {base e n size : Nat} {a : Option Addr} {m c : Nat} {xs : List Value} (h : w.ownsRow base e size (.slice a m c) n xs) : m = n ∧ n ≤ c := by
  rcases h.2 with ⟨h1, h2⟩ | ⟨g, cap, cur, h1, _, _, h3, _⟩
  · simp at h1
    omega
  · simp at h1
    obtain ⟨_, rfl, rfl⟩ := h1
    exact ⟨rfl, h3⟩
theorem slice_of {w : World} {base e n size : Nat} {v : Value} {xs : List Value} (h : w.ownsRow base e size v n xs) : ∃ a c, v = .slice a n c := by
  rcases h.2 with ⟨h1, h2⟩ | ⟨g, cap, cur, h1, _⟩
  · exact ⟨none, 0, by rw [h1, h2]⟩
  · exact ⟨_, _, h1⟩
/-- append of a row that can be read to a row of our own -/
theorem appRP (W : World) (base : Nat) (v : Value) (n : Nat) (acc : List Pl) (hown : W.ownsRow base 33 5 v n (cs acc)) (hb : base ≤ W.heap.size)
    (a : Option Addr) (c : Nat) (l : List Pl) (hr : Rd W a (cs l)) (hl : n + l.length ≤ 2097152) :
    ∃ v' w2, (appSem #[22, 22] 22 #[v, .slice a l.length c]).run Tryd.prog W = .ok v' w2 ∧
      w2.ownsRow base 33 5 v' (n + l.length) (cs (acc ++ l)) ∧ W.grownBy w2 v.ownBlock := by
  obtain ⟨i0, hi, hz0, hz1, hz2⟩ := info_parts rwPlace.info
  cases a with
  | none =>
    have h0 : l = [] := by
      cases l with
      | nil => rfl
      | cons f r =>
        obtain ⟨b, off, e, _⟩ := hr 0 _ rfl
        cases e
    subst h0
    obtain ⟨a', c', rfl⟩ := slice_of hown
    obtain ⟨_, hc⟩ := cap_of hown
    have h := run_append_nothing (P := Tryd.prog) W 22 22 22 33 i0 Tryd.underlying22 hi a' n c' hc (.slice none 0 c) (Src.ofNil W Tryd.underlying22 c)
    exact ⟨_, W, h, by simpa using hown, grew_refl _ _⟩
  | some ad =>
    obtain ⟨v', w2, happ, hown2, hgr, hnil⟩ := run_append_own (P := Tryd.prog) W base 22 22 33 i0 (.agg #[.string ⟨#[]⟩, .string ⟨#[]⟩, .int .i64 0, .int .i64 0, .int .i64 0]) 5 56 Tryd.underlying22 hi hz0 hz1 hz2 rfl (by decide) v n (cs acc) hown ad l.length c (cs l) (by rw [rwPlace.cs_len]; omega) (rd_add hr) (cs_one l) (by unfold maxLen; omega) (by omega) hb
    exact ⟨v', w2, happ, by rw [rwPlace.cs_app]; exact hown2, hgr⟩
/-- append of n empty places to no row, of which none is kept -/
theorem app_zeros (w : World) (n : Nat) (h0 : 0 < n) (hn : n ≤ 1048576) :
    ∃ C w1, (appSem #[22, 3] 22 #[.slice none 0 0, .int .i64 (n : Int)]).run Tryd.prog w = .ok (.slice (some ⟨w.heap.size, 0, none⟩) n C) w1 ∧
      w1.ownsRow w.heap.size 33 5 (.slice (some ⟨w.heap.size, 0, none⟩) 0 C) 0 (cs []) ∧ n ≤ C ∧ Below w.heap.size w w1 := by
  obtain ⟨i0, hi0, hz0, hz1, hz2⟩ := info_parts rwPlace.info
  have h := Lib.run_append_nil_zeros (P := Tryd.prog) w 22 3 22 33 i0 _ .i64 .i64 Tryd.underlying22 Tryd.underlying3 hi0 hz0 n h0 (by rw [hz1]; decide) (by omega) (by rw [hz2]; omega)
  have hge := grownCap_ge w n 0 33
  have hle := grownCap_le_maxLen w n 0 33 (by unfold maxLen; omega)
  generalize grownCap w n 0 33 = C at *
  refine ⟨C, _, h, ?_, hge, re (w := w) (below_alloc1 w.drew _) rfl rfl rfl rfl⟩
  have q1 : ∀ m, (Builtin.zeroCells (Value.agg #[.string ⟨#[]⟩, .string ⟨#[]⟩, .int .i64 0, .int .i64 0, .int .i64 0]).cells m).size = m * 5 := fun m => by simp [Builtin.zeroCells]; rfl
  exact World.ownsRow_made (w := w.drew) (size := 5) _ C (Nat.le_refl _) hle (by rw [Array.size_append, q1, q1]; omega)

def sliceSem (t : TypeId) (v : Value) (a b c : Option Value) : Sem Value := Instr.slice t v a b c
theorem slice_fold (t : TypeId) (v : Value) (a b c : Option Value) : Instr.slice t v a b c = sliceSem t v a b c := rfl
/-- where a slice begins from place j on -/
def lo (a : Option Addr) (j c : Nat) : Option Addr := if c = j then a else a.map (fun x => x.add (j * 5))
theorem elem_is : Tryd.prog.elem 22 = 33 := by kernel_rfl
theorem size_is (w : World) : (sizeOf 33).run Tryd.prog w = .ok 5 w := by kernel_rfl
theorem und_is : Tryd.prog.underlying 22 = some (.slice (Tryd.prog.elem 22)) := by rw [elem_is]; exact Tryd.underlying22
theorem add_zero (a : Addr) : a.add 0 = a := by
  obtain ⟨b, o, s⟩ := a
  rfl
set_option maxRecDepth 100000 in
theorem sl_hi (a : Option Addr) (n c i : Nat) (h : i ≤ c) (wx : World) : (sliceSem 22 (.slice a n c) none (some (.int .i64 (i : Int))) none).run Tryd.prog wx = .ok (.slice a i c) wx := by
  have h1 := run_slice_h (P := Tryd.prog) wx 22 a n c und_is .i64 (i : Int) (by omega) (by omega)
  rw [elem_is, size_is] at h1
  refine h1.trans ?_
  simp only [Result.andThen, sliced]
  have e : (i : Int).toNat = i := by omega
  rw [e]
  congr 2
  · split
    · rfl
    · cases a with
      | none => rfl
      | some ad => simp [add_zero]
set_option maxRecDepth 100000 in
theorem sl_lo (a : Option Addr) (n c j : Nat) (h : j ≤ n) (wx : World) : (sliceSem 22 (.slice a n c) (some (.int .i64 (j : Int))) none none).run Tryd.prog wx = .ok (.slice (lo a j c) (n - j) (c - j)) wx := by
  have h1 := run_slice_l (P := Tryd.prog) wx 22 a n c und_is .i64 (j : Int) (by omega) (by omega)
  rw [elem_is, size_is] at h1
  refine h1.trans ?_
  simp only [Result.andThen, sliced]
  have e : (j : Int).toNat = j := by omega
  rw [e]
  unfold lo
  congr 2
theorem rd_take {w : World} {a : Option Addr} {l : List Pl} (h : Rd w a (cs l)) (i : Nat) : Rd w a (cs (l.take i)) := by
  intro j u hj
  refine h j u ?_
  have e : cs l = cs (l.take i) ++ cs (l.drop i) := by rw [← rwPlace.cs_app, List.take_append_drop]
  rw [e, List.getElem?_append_left (List.getElem?_eq_some_iff.1 hj).1]
  exact hj
theorem rd_drop {w : World} {a : Option Addr} {l : List Pl} {c : Nat} (h : Rd w a (cs l)) (j : Nat) (hj : j ≤ l.length) (hc : l.length ≤ c) : Rd w (lo a j c) (cs (l.drop j)) := by
  unfold lo
  split
  · have : l.drop j = [] := List.drop_of_length_le (by omega)
    rw [this]
    exact Rd.nil _ _
  · intro i u hi
    have e : cs l = cs (l.take j) ++ cs (l.drop j) := by rw [← rwPlace.cs_app, List.take_append_drop]
    have hl : (cs (l.take j)).length = j * 5 := by rw [rwPlace.cs_len, List.length_take]; omega
    obtain ⟨b, off, ea, hb⟩ := h (j * 5 + i) u (by rw [e, List.getElem?_append_right (by omega), hl]; simpa using hi)
    subst ea
    refine ⟨b, off + j * 5, by rw [Option.map_some, Addr.add_lit], ?_⟩
    have e2 : off + j * 5 + i = off + (j * 5 + i) := by omega
    rw [e2]
    exact hb
end Go.Proofs.YtppjbmmeacmoiaaDoor.plc
namespace Go.Proofs.YtppjbmmeacmoiaaDoor.plc
open Go.RowKit Go.Joins Go.Sort
open Go.Proofs.YtppjbmmeacmoiaaDoor.base Go.Proofs.YtppjbmmeacmoiaaDoor.blk Go.Proofs.YtppjbmmeacmoiaaDoor.aid
open Go.Proofs.YtppjbmmeacmoiaaDoor.ord
open Go.Proofs.YtppjbmmeacmoiaaDoor.obj (objB objB_small)
open Go.Proofs.YtppjbmmeacmoiaaDoor.row (Rd Own OwnV)
open Go.Proofs.YtppjbmmeacmoiaaDoor.rwPlace (cs el)
set_option linter.unusedVariables false

theorem toList_eq {a b : ByteArray} : (a.toList == b.toList) = decide (a = b) := by
  by_cases h : a = b
  · subst h; simp
  · have : a.toList ≠ b.toList := fun e => h (by rw [toList_data, toList_data] at e; exact ByteArray.ext (Array.toList_inj.1 e))
    simp [h, this]
set_option maxRecDepth 100000 in
/-- two boxes are laid: its parameters -/
theorem less_any (a b : Pl) (w : World) :
    Calls Tryd.prog 29 #[plV a, plV b] w fun e w' => e = .returned (.bool (lessP a b)) ∧ w' = (w.alloc (plO a)).alloc (plO b) := by
  obtain ⟨a0, a1, a2, a3, a4⟩ := a
  obtain ⟨b0, b1, b2, b3, b4⟩ := b
  unfold plV plO
  have E : lessP (a0, a1, a2, a3, a4) (b0, b1, b2, b3, b4) = (Op.bytesLess a0.toList b0.toList || ((a0.toList == b0.toList) && Op.bytesLess a1.toList b1.toList)) := by
    rw [toList_eq]; rfl
  rw [E]
  clear E
  cases h1 : Op.bytesLess a0.toList b0.toList with
  | true =>
    go_enter Tryd.func29, Tryd.ntmps29
    go_wp2
    go_ret
    exact ⟨rfl, rfl⟩
  | false =>
    cases h2 : (a0.toList == b0.toList) with
    | false =>
      go_enter Tryd.func29, Tryd.ntmps29
      go_wp2
      go_ret
      exact ⟨rfl, rfl⟩
    | true =>
      cases h3 : Op.bytesLess a1.toList b1.toList with
      | false =>
        go_enter Tryd.func29, Tryd.ntmps29
        go_wp2
        go_ret
        exact ⟨rfl, rfl⟩
      | true =>
        go_enter Tryd.func29, Tryd.ntmps29
        go_wp2
        go_ret
        exact ⟨rfl, rfl⟩
theorem alloc_grown (w : World) (o : Obj) : ∃ q os', w.alloc o = grow (w.drewN q) os' := ⟨0, #[o], by rw [alloc_eq_grow]; rfl⟩
theorem alloc2_grown (w : World) (o p : Obj) : ∃ q os', (w.alloc o).alloc p = grow (w.drewN q) os' := ⟨0, #[o] ++ #[p], by rw [alloc_eq_grow, alloc_eq_grow, grow_grow]; rfl⟩
theorem mixed : Tryd.prog.follows .mixedOrders = true := by kernel_rfl
theorem below_grow {B n : Nat} {w V : World} (os : Array Obj) (h : Below B w V) (hs : B ≤ V.heap.size) : Below B w (grow (V.drewN n) os) :=
  ⟨h.os, h.tape, h.output, by have := h.size; simp; omega, fun k hk => by rw [heap_grow_old _ _ (by show k < V.heap.size; omega)]; exact h.block k hk⟩
theorem less_grown (a b : Pl) (w : World) (r : Bool) (hr : lessP a b = r) :
    Calls Tryd.prog 29 #[.agg #[.string a.1, .string a.2.1, .int .i64 a.2.2.1, .int .i64 a.2.2.2.1, .int .i64 a.2.2.2.2], .agg #[.string b.1, .string b.2.1, .int .i64 b.2.2.1, .int .i64 b.2.2.2.1, .int .i64 b.2.2.2.2]] w fun e w' => e = .returned (.bool r) ∧ ∃ q os', w' = grow (w.drewN q) os' :=
  (less_any a b w).mono (fun e w' h => ⟨by rw [h.1, hr], by rw [h.2]; exact alloc2_grown w _ _⟩)
/-- the one ahead -/
def before (l : List Pl) (k : Nat) : Option Pl := if k = 0 then none else l[k - 1]?
theorem ahead (l : List Pl) (k : Nat) (h : k < l.length) : (k = 0 ∧ before l k = none) ∨ ∃ j p, k = j + 1 ∧ before l k = some p ∧ l[j]? = some p := by
  cases k with
  | zero => exact .inl ⟨rfl, rfl⟩
  | succ j =>
    have hj : j < l.length := by omega
    exact .inr ⟨j, l[j], rfl, by simp [before, hj], by simp [hj]⟩
theorem plsB_step (l : List Pl) (k : Nat) (x : Pl) (h : l[k]? = some x) : plsB (before l k) (l.drop k) = (plB x && aft (before l k) x && plsB (before l (k + 1)) (l.drop (k + 1))) := by
  have hlt := (List.getElem?_eq_some_iff.1 h).1
  have e : l.drop k = x :: l.drop (k + 1) := by rw [List.drop_eq_getElem_cons hlt, (List.getElem?_eq_some_iff.1 h).2]
  have e2 : before l (k + 1) = some x := by simp [before, h]
  rw [e, plsB, e2]
def Small (l : List Pl) : Prop := ∀ b ∈ l, b.1.size ≤ 1048576 ∧ b.2.1.size ≤ 1048576
theorem plB_parts {x0 x1 : ByteArray} {x2 x3 x4 : Int} (h : plB (x0, x1, x2, x3, x4) = true) : x0.size = 32 ∧ objB x1 = true ∧ (x2 = 1 ∨ x2 = 2) ∧ 0 ≤ x3 ∧ x3 ≤ 12000 ∧ 0 ≤ x4 ∧ x4 ≤ 2000 := by
  unfold plB at h
  simp only [Bool.and_eq_true, Bool.or_eq_true, decide_eq_true_eq] at h
  obtain ⟨⟨⟨⟨h1, h2⟩, h3⟩, h4, h5⟩, h6, h7⟩ := h
  exact ⟨h1, h2, h3, h4, h5, h6, h7⟩
theorem plB_of {x0 x1 : ByteArray} {x2 x3 x4 : Int} (h1 : x0.size = 32) (h2 : objB x1 = true) (h3 : x2 = 1 ∨ x2 = 2) (h4 : 0 ≤ x3) (h5 : x3 ≤ 12000) (h6 : 0 ≤ x4) (h7 : x4 ≤ 2000) : plB (x0, x1, x2, x3, x4) = true := by
  unfold plB
  simp only [Bool.and_eq_true, Bool.or_eq_true, decide_eq_true_eq]
  exact ⟨⟨⟨⟨h1, h2⟩, h3⟩, h4, h5⟩, h6, h7⟩

end Go.Proofs.YtppjbmmeacmoiaaDoor.plc
namespace Go.Proofs.YtppjbmmeacmoiaaDoor.plc
open Go.RowKit Go.Joins Go.Sort
open Go.Proofs.YtppjbmmeacmoiaaDoor.base Go.Proofs.YtppjbmmeacmoiaaDoor.blk Go.Proofs.YtppjbmmeacmoiaaDoor.aid
open Go.Proofs.YtppjbmmeacmoiaaDoor.row (Rd Own OwnV appSem app_fold)
open Go.Proofs.YtppjbmmeacmoiaaDoor.rwPlace (cs el)
set_option linter.unusedVariables false
set_option linter.unusedSimpArgs false
attribute [local go_sem ↓] app_fold slice_fold

theorem own_rd {w : World} {base T n size c : Nat} {a : Option Addr} {xs : List Value} (h : w.ownsRow base T size (.slice a n c) n xs) : Rd w a xs := by
  rcases h.2 with ⟨h1, h2⟩ | ⟨g, cap, cur, h1, _⟩
  · have h3 := h.1
    rw [h2, Nat.zero_mul] at h3
    have := List.eq_nil_of_length_eq_zero h3
    subst this
    exact Rd.nil _ _
  · simp at h1
    obtain ⟨rfl, _⟩ := h1
    exact (OwnV.rd (.inr ⟨g, rfl, Own.owns h⟩))
theorem empty_row (w : World) : (w.alloc (.cells #[] 33)).ownsRow w.heap.size 33 5 (.slice (some ⟨w.heap.size, 0, none⟩) 0 0) 0 (cs []) :=
  World.ownsRow_made (size := 5) w #[] 0 (Nat.le_refl _) (by unfold maxLen; omega) rfl
/-- first places, one, and the rest, in a row of our own -/
theorem three (a : Option Addr) (c : Nat) (l : List Pl) (x0 x1 : ByteArray) (x2 x3 x4 : Int) (k : Nat) (w : World) (hk : k ≤ l.length) (hl : l.length ≤ 1048576) (hc : l.length ≤ c) (hr : Rd w a (cs l)) :
    ∃ a1 c1 w1 a2 c2 w2 a3 c3 w3, (appSem #[22, 22] 22 #[.slice (some ⟨w.heap.size, 0, none⟩) 0 0, .slice a k c]).run Tryd.prog (w.alloc (.cells #[] 33)) = .ok (.slice a1 k c1) w1 ∧
      (appSem #[22, 22] 22 #[.slice a1 k c1, .slice (some ⟨w1.heap.size, 0, none⟩) 1 1]).run Tryd.prog (w1.alloc (.cells #[.string x0, .string x1, .int .i64 x2, .int .i64 x3, .int .i64 x4] 33)) = .ok (.slice a2 (k + 1) c2) w2 ∧
      (appSem #[22, 22] 22 #[.slice a2 (k + 1) c2, .slice (lo a k c) (l.length - k) (c - k)]).run Tryd.prog w2 = .ok (.slice a3 (k + 1 + (l.length - k)) c3) w3 ∧
      Rd w3 a3 (cs (l.take k ++ [(x0, x1, x2, x3, x4)] ++ l.drop k)) ∧ (∀ b o s, a3 = some ⟨b, o, s⟩ → w.heap.size ≤ b) ∧ Below w.heap.size w w3 ∧ k + 1 + (l.length - k) ≤ c3 ∧ Below w.heap.size w w1 := by
  have hB0 := below_alloc1 w (.cells #[] 33)
  have q1 : (l.take k).length = k := by simp; omega
  obtain ⟨v1, w1, happ1, hown1, hgr1⟩ := appRP (w.alloc (.cells #[] 33)) w.heap.size _ 0 [] (empty_row w) hB0.size a c (l.take k) (rd_take (hr.alloc _) k) (by omega)
  rw [q1, Nat.zero_add] at hown1
  rw [q1] at happ1
  obtain ⟨a1, c1, rfl⟩ := slice_of hown1
  have hB1 : Below w.heap.size w w1 := hB0.grown hgr1 hB0.size (fun j hj => ((empty_row w).lt j hj).1)
  obtain ⟨g2, c2, w2, happ2, hown2, hgr2⟩ := rwPlace.app (W := w1) (base := w.heap.size) (.slice a1 k c1) k (l.take k) x0 x1 x2 x3 x4 q1 hown1 hB1.size (by omega)
  have hB1' : Below w.heap.size w (w1.alloc (.cells #[.string x0, .string x1, .int .i64 x2, .int .i64 x3, .int .i64 x4] 33)) := hB1.alloc hB1.size _
  have hB2 : Below w.heap.size w w2 := hB1'.grown hgr2 hB1'.size (fun j hj => (hown1.lt j hj).1)
  have q3 : (l.drop k).length = l.length - k := by simp
  obtain ⟨v3, w3, happ3, hown3, hgr3⟩ := appRP w2 w.heap.size _ (k + 1) (l.take k ++ [(x0, x1, x2, x3, x4)]) hown2 hB2.size (lo a k c) (c - k) (l.drop k) (rd_drop (hr.below hB2) k hk hc) (by omega)
  rw [q3] at happ3 hown3
  obtain ⟨a3, c3, rfl⟩ := slice_of hown3
  have hB3 : Below w.heap.size w w3 := hB2.grown hgr3 hB2.size (fun j hj => (hown2.lt j hj).1)
  exact ⟨a1, c1, w1, _, c2, w2, a3, c3, w3, happ1, happ2, happ3, own_rd hown3, fun b o s e => (hown3.lt b (by rw [e]; rfl)).1, hB3, (cap_of hown3).2, hB1⟩
/-- places that can be read are the answer: the argument's own or fresh ones -/
def PtPost (w : World) (a : Option Addr) (ts : List Pl) (e : Ending) (w' : World) : Prop :=
  ∃ a' c', e = .returned (.slice a' ts.length c') ∧ Rd w' a' (cs ts) ∧ (a' = a ∨ ∀ b o s, a' = some ⟨b, o, s⟩ → w.heap.size ≤ b) ∧ Below w.heap.size w w' ∧ ts.length ≤ c'
theorem pt_of {w w' : World} {a a' : Option Addr} {ts : List Pl} {n c' : Nat} (hn : ts.length = n) (hr : Rd w' a' (cs ts)) (hf : a' = a ∨ ∀ b o s, a' = some ⟨b, o, s⟩ → w.heap.size ≤ b) (hb : Below w.heap.size w w') (hc : n ≤ c') : PtPost w a ts (.returned (.slice a' n c')) w' := by
  subst hn
  exact ⟨a', c', rfl, hr, hf, hb, hc⟩
theorem put_ins {l : List Pl} {x : Pl} {k : Nat} (hk : spot x l 0 = k) (h : ∀ f, l[k]? = some f → lessP x f = true) : put l x = l.take k ++ [x] ++ l.drop k := by
  subst hk
  unfold put
  cases hg : l[spot x l 0]? with
  | none => rfl
  | some f => simp only [h f hg, if_true]
theorem put_old {l : List Pl} {x f : Pl} {k : Nat} (hk : spot x l 0 = k) (hf : l[k]? = some f) (h : lessP x f = false) : put l x = l := by
  subst hk
  unfold put
  rw [hf]
  simp [h]
theorem ins_len (l : List Pl) (x : Pl) (k : Nat) (hk : k ≤ l.length) : (l.take k ++ [x] ++ l.drop k).length = k + 1 + (l.length - k) := by simp; omega
set_option maxRecDepth 100000 in
set_option maxHeartbeats 4000000 in
theorem putS_any (a : Option Addr) (c : Nat) (l : List Pl) (x0 x1 : ByteArray) (x2 x3 x4 : Int) (w : World) (hl : l.length ≤ 1048576) (hc : l.length ≤ c) (hr : Rd w a (cs l)) :
    Calls Tryd.prog 19 #[.slice a l.length c, .agg #[.string x0, .string x1, .int .i64 x2, .int .i64 x3, .int .i64 x4]] w (PtPost w a (put l (x0, x1, x2, x3, x4))) := by
  have HA := mkHid hr
  have hli : (l.length : Int) ≤ 1048576 := by omega
  have HB0 := mkHid (below_alloc1 w (.cells #[.string x0, .string x1, .int .i64 x2, .int .i64 x3, .int .i64 x4] 33))
  have b0 := mkHid (blk_new w (.cells #[.string x0, .string x1, .int .i64 x2, .int .i64 x3, .int .i64 x4] 33) w.heap.size rfl)
  clear hr
  go_enter Tryd.func19, Tryd.ntmps19
  have hmx := mixed
  go_wp2_with fail
  go_loopw [5] (fun i wr => ∃ k : Nat, k ≤ l.length ∧ i = .int .i64 k ∧ Hid (spot (x0, x1, x2, x3, x4) l 0 = spot (x0, x1, x2, x3, x4) (l.drop k) k) ∧ Hid (Below w.heap.size w wr) ∧ Hid (wr.heap[w.heap.size]? = some (.cells #[.string x0, .string x1, .int .i64 x2, .int .i64 x3, .int .i64 x4] 33)))
    (fun i _ => l.length - (intOf i).toNat)
  case atStart => exact ⟨0, Nat.zero_le _, rfl, mkHid (by simp), HB0, b0⟩
  case round =>
    obtain ⟨k, hkl, rfl, hE, HB, hb⟩ := hrel
    clear HB0 b0
    have hwr : w.heap.size < wr.heap.size := (Array.getElem?_eq_some_iff.1 hb.out).1
    have HG : Hid (∀ n os, Below w.heap.size w (grow (wr.drewN n) os)) := mkHid (fun n os => below_grow os HB.out (by omega))
    have HGb : Hid (∀ n os, (grow (wr.drewN n) os).heap[w.heap.size]? = some (.cells #[.string x0, .string x1, .int .i64 x2, .int .i64 x3, .int .i64 x4] 33)) := mkHid (fun n os => by rw [heap_grow_old _ _ (by show w.heap.size < wr.heap.size; omega)]; exact hb.out)
    obtain ⟨f0, f1, f2, f3, f4⟩ := cel5 hb.out
    have hS1 := fun wx => sl_hi a l.length c k (by omega) wx
    have hS2 := fun wx => sl_lo a l.length c k (by omega) wx
    by_cases hlt : k < l.length
    · have hlti : (k : Int) < (l.length : Int) := by omega
      obtain ⟨⟨y0, y1, y2, y3, y4⟩, hx⟩ : ∃ y, l[k]? = some y := ⟨_, List.getElem?_eq_getElem hlt⟩
      have hR := HA.out.below HB.out
      obtain ⟨g1, o1, rfl, c0, c1, c2, c3, c4, l1⟩ := el hR hx
      simp only at c0 c1 c2 c3 c4
      have hst := spot_step l (x0, x1, x2, x3, x4) k _ hx
      have F0 := fun n os => cell_grown (n := n) (os := os) (a := ⟨w.heap.size, 0, none⟩) hwr f0
      have F1 := fun n os => cell_grown (n := n) (os := os) (a := ⟨w.heap.size, 1, none⟩) hwr f1
      have F2 := fun n os => cell_grown (n := n) (os := os) (a := ⟨w.heap.size, 2, none⟩) hwr f2
      have F3 := fun n os => cell_grown (n := n) (os := os) (a := ⟨w.heap.size, 3, none⟩) hwr f3
      have F4 := fun n os => cell_grown (n := n) (os := os) (a := ⟨w.heap.size, 4, none⟩) hwr f4
      have P0 := fun n os => cell_grown (n := n) (os := os) l1 c0
      have P1 := fun n os => cell_grown (n := n) (os := os) (a := ⟨g1, o1 + k * 5 + 1, none⟩) l1 c1
      have P2 := fun n os => cell_grown (n := n) (os := os) (a := ⟨g1, o1 + k * 5 + 2, none⟩) l1 c2
      have P3 := fun n os => cell_grown (n := n) (os := os) (a := ⟨g1, o1 + k * 5 + 3, none⟩) l1 c3
      have P4 := fun n os => cell_grown (n := n) (os := os) (a := ⟨g1, o1 + k * 5 + 4, none⟩) l1 c4
      cases hless : lessP (y0, y1, y2, y3, y4) (x0, x1, x2, x3, x4) with
      | true =>
        have N1 : Hid (spot (x0, x1, x2, x3, x4) l 0 = spot (x0, x1, x2, x3, x4) (l.drop (k + 1)) (k + 1)) := mkHid (by rw [hE.out, hst, if_pos hless])
        have HS1 := mkHid (fun wx => less_grown (y0, y1, y2, y3, y4) (x0, x1, x2, x3, x4) wx _ hless)
        clear hx hst hE hS1 hS2 hless hR HB hb
        go_wp2_with fail
        refine wp_region_quiet_grown mixed (by kernel_rfl) ?_
        repeat (go_big_quiet_step ((go_at_call 29; refine Calls.grown_of (HS1.out _))))
        refine wpQuiet_nil ?_
        intro _ hw'
        obtain ⟨⟨nq, osq⟩, hw''⟩ := hw'
        subst hw''
        go_wp2
        go_roundw
        case rel => exact ⟨k + 1, by omega, by go_num, N1, mkHid (HG.out _ _), mkHid (HGb.out _ _)⟩
        case measure => simp [intOf]; omega
      | false =>
        have hk : spot (x0, x1, x2, x3, x4) l 0 = k := by rw [hE.out, hst, if_neg (by rw [hless]; simp)]
        have HS1 := mkHid (fun wx => less_grown (y0, y1, y2, y3, y4) (x0, x1, x2, x3, x4) wx _ hless)
        cases hrev : lessP (x0, x1, x2, x3, x4) (y0, y1, y2, y3, y4) with
        | false =>
          have HS2 := mkHid (fun wx => less_grown (x0, x1, x2, x3, x4) (y0, y1, y2, y3, y4) wx _ hrev)
          have hp := put_old hk hx hrev
          have HP : Hid (∀ W, Below w.heap.size w W → PtPost w (some ⟨g1, o1, none⟩) (put l (x0, x1, x2, x3, x4)) (.returned (.slice (some ⟨g1, o1, none⟩) l.length c)) W) := mkHid (fun W hW => pt_of (by rw [hp]) (by rw [hp]; exact HA.out.below hW) (.inl rfl) hW hc)
          have HG2 : Hid (∀ n os n2 os2, Below w.heap.size w (grow ((grow (wr.drewN n) os).drewN n2) os2)) := mkHid (fun n os n2 os2 => below_grow os2 (HG.out n os) (by have := (HG.out n os).size; omega))
          clear hx hst hE hS1 hS2 hless hR HB hb hk hp hrev
          go_wp2_with fail
          refine wp_region_quiet_grown mixed (by kernel_rfl) ?_
          repeat (go_big_quiet_step ((go_at_call 29; refine Calls.grown_of (HS1.out _))))
          refine wpQuiet_nil ?_
          intro _ hw'
          obtain ⟨⟨nq, osq⟩, hw''⟩ := hw'
          subst hw''
          have f0 := F0 nq osq
          have f1 := F1 nq osq
          have f2 := F2 nq osq
          have f3 := F3 nq osq
          have f4 := F4 nq osq
          have c0 := P0 nq osq
          have c1 := P1 nq osq
          have c2 := P2 nq osq
          have c3 := P3 nq osq
          have c4 := P4 nq osq
          have hwr2 : w.heap.size < (grow (wr.drewN nq) osq).heap.size := by have := (HGb.out nq osq); exact (Array.getElem?_eq_some_iff.1 this).1
          have l2 : g1 < (grow (wr.drewN nq) osq).heap.size := by simp; omega
          have HG3 := mkHid (HG2.out nq osq)
          clear F0 F1 F2 F3 F4 P0 P1 P2 P3 P4 HG2
          generalize grow (wr.drewN nq) osq = V at *
          have F0 := fun n os => cell_grown (n := n) (os := os) (a := ⟨w.heap.size, 0, none⟩) hwr2 f0
          have F1 := fun n os => cell_grown (n := n) (os := os) (a := ⟨w.heap.size, 1, none⟩) hwr2 f1
          have F2 := fun n os => cell_grown (n := n) (os := os) (a := ⟨w.heap.size, 2, none⟩) hwr2 f2
          have F3 := fun n os => cell_grown (n := n) (os := os) (a := ⟨w.heap.size, 3, none⟩) hwr2 f3
          have F4 := fun n os => cell_grown (n := n) (os := os) (a := ⟨w.heap.size, 4, none⟩) hwr2 f4
          have P0 := fun n os => cell_grown (n := n) (os := os) l2 c0
          have P1 := fun n os => cell_grown (n := n) (os := os) (a := ⟨g1, o1 + k * 5 + 1, none⟩) l2 c1
          have P2 := fun n os => cell_grown (n := n) (os := os) (a := ⟨g1, o1 + k * 5 + 2, none⟩) l2 c2
          have P3 := fun n os => cell_grown (n := n) (os := os) (a := ⟨g1, o1 + k * 5 + 3, none⟩) l2 c3
          have P4 := fun n os => cell_grown (n := n) (os := os) (a := ⟨g1, o1 + k * 5 + 4, none⟩) l2 c4
          go_wp2_with fail
          refine wp_region_quiet_grown mixed (by kernel_rfl) ?_
          repeat (go_big_quiet_step ((go_at_call 29; refine Calls.grown_of (HS2.out _))))
          refine wpQuiet_nil ?_
          intro _ hw'
          obtain ⟨⟨nq2, osq2⟩, hw''⟩ := hw'
          subst hw''
          go_wp2
          go_ret
          exact HP.out _ (HG3.out _ _)
        | true =>
          have HS2 := mkHid (fun wx => less_grown (x0, x1, x2, x3, x4) (y0, y1, y2, y3, y4) wx _ hrev)
          have hp := put_ins (l := l) hk (fun f hf => by rw [hx] at hf; cases hf; exact hrev)
          have HG2 : Hid (∀ n os n2 os2, Below w.heap.size w (grow ((grow (wr.drewN n) os).drewN n2) os2)) := mkHid (fun n os n2 os2 => below_grow os2 (HG.out n os) (by have := (HG.out n os).size; omega))
          have HG2b : Hid (∀ n os n2 os2, (grow ((grow (wr.drewN n) os).drewN n2) os2).heap[w.heap.size]? = some (.cells #[.string x0, .string x1, .int .i64 x2, .int .i64 x3, .int .i64 x4] 33)) := mkHid (fun n os n2 os2 => by
            have h := HGb.out n os
            rw [heap_grow_old _ _ (by show w.heap.size < (grow (wr.drewN n) os).heap.size; exact (Array.getElem?_eq_some_iff.1 h).1)]
            exact h)
          have HP := mkHid hp
          clear hx hst hE hless hR HB hb hk hp hrev
          go_wp2_with fail
          refine wp_region_quiet_grown mixed (by kernel_rfl) ?_
          repeat (go_big_quiet_step ((go_at_call 29; refine Calls.grown_of (HS1.out _))))
          refine wpQuiet_nil ?_
          intro _ hw'
          obtain ⟨⟨nq, osq⟩, hw''⟩ := hw'
          subst hw''
          have f0 := F0 nq osq
          have f1 := F1 nq osq
          have f2 := F2 nq osq
          have f3 := F3 nq osq
          have f4 := F4 nq osq
          have c0 := P0 nq osq
          have c1 := P1 nq osq
          have c2 := P2 nq osq
          have c3 := P3 nq osq
          have c4 := P4 nq osq
          have hwr2 : w.heap.size < (grow (wr.drewN nq) osq).heap.size := by have := (HGb.out nq osq); exact (Array.getElem?_eq_some_iff.1 this).1
          have l2 : g1 < (grow (wr.drewN nq) osq).heap.size := by simp; omega
          have HG3 := mkHid (HG2.out nq osq)
          have HG3b := mkHid (HG2b.out nq osq)
          clear F0 F1 F2 F3 F4 P0 P1 P2 P3 P4 HG2 HG2b
          generalize grow (wr.drewN nq) osq = V at *
          have F0 := fun n os => cell_grown (n := n) (os := os) (a := ⟨w.heap.size, 0, none⟩) hwr2 f0
          have F1 := fun n os => cell_grown (n := n) (os := os) (a := ⟨w.heap.size, 1, none⟩) hwr2 f1
          have F2 := fun n os => cell_grown (n := n) (os := os) (a := ⟨w.heap.size, 2, none⟩) hwr2 f2
          have F3 := fun n os => cell_grown (n := n) (os := os) (a := ⟨w.heap.size, 3, none⟩) hwr2 f3
          have F4 := fun n os => cell_grown (n := n) (os := os) (a := ⟨w.heap.size, 4, none⟩) hwr2 f4
          have P0 := fun n os => cell_grown (n := n) (os := os) l2 c0
          have P1 := fun n os => cell_grown (n := n) (os := os) (a := ⟨g1, o1 + k * 5 + 1, none⟩) l2 c1
          have P2 := fun n os => cell_grown (n := n) (os := os) (a := ⟨g1, o1 + k * 5 + 2, none⟩) l2 c2
          have P3 := fun n os => cell_grown (n := n) (os := os) (a := ⟨g1, o1 + k * 5 + 3, none⟩) l2 c3
          have P4 := fun n os => cell_grown (n := n) (os := os) (a := ⟨g1, o1 + k * 5 + 4, none⟩) l2 c4
          go_wp2_with fail
          refine wp_region_quiet_grown mixed (by kernel_rfl) ?_
          repeat (go_big_quiet_step ((go_at_call 29; refine Calls.grown_of (HS2.out _))))
          refine wpQuiet_nil ?_
          intro _ hw'
          obtain ⟨⟨nq2, osq2⟩, hw''⟩ := hw'
          subst hw''
          have B4 := mkHid (HG3.out nq2 osq2)
          have b4 := mkHid (HG3b.out nq2 osq2)
          clear F0 F1 F2 F3 F4 P0 P1 P2 P3 P4 f0 f1 f2 f3 f4 c0 c1 c2 c3 c4 HG3 HG3b hwr2 l2
          generalize grow (V.drewN nq2) osq2 = U at *
          obtain ⟨a1, e1, w1, a2, e2, w2, a3, e3, w3, happ1, happ2, happ3, ho, hg, hB, hcap, hB1⟩ := three (some ⟨g1, o1, none⟩) c l x0 x1 x2 x3 x4 k U hkl hl hc (HA.out.below B4.out)
          obtain ⟨d0, d1, d2, d3, d4⟩ := cel5 (blk_below b4.out hB1)
          have HQ : Hid (PtPost w (some ⟨g1, o1, none⟩) (put l (x0, x1, x2, x3, x4)) (.returned (.slice a3 (k + 1 + (l.length - k)) e3)) w3) := mkHid (pt_of (by rw [HP.out, ins_len _ _ _ hkl]) (by rw [HP.out]; exact ho) (.inr (fun b o s e => Nat.le_trans B4.out.size (hg b o s e))) (below_trans B4.out hB) hcap)
          clear ho hg hB hcap hB1 HP B4 b4
          go_wp2
          go_ret
          exact HQ.out
    · obtain rfl : k = l.length := by omega
      have hltn : (l.length < l.length) = False := by simp
      have hk : spot (x0, x1, x2, x3, x4) l 0 = l.length := by rw [hE.out, List.drop_of_length_le (Nat.le_refl _)]; rfl
      have hp := put_ins (l := l) hk (fun f hf => by rw [List.getElem?_eq_none (Nat.le_refl _)] at hf; cases hf)
      have hl0 := ins_len l (x0, x1, x2, x3, x4) l.length (Nat.le_refl _)
      have HTh := mkHid (fun (U : World) (hU : Below w.heap.size w U) => three a c l x0 x1 x2 x3 x4 l.length U hkl hl hc (HA.out.below hU))
      have HP := mkHid hp
      rw [Nat.sub_self] at hS2 hl0 HTh
      rw [Nat.add_zero] at hl0 HTh
      have HQ : Hid (∀ (U : World) (a3 : Option Addr) (e3 : Nat) (w3 : World), Below w.heap.size w U → Rd w3 a3 (cs (l.take l.length ++ [(x0, x1, x2, x3, x4)] ++ l.drop l.length)) → (∀ b o s, a3 = some ⟨b, o, s⟩ → U.heap.size ≤ b) → Below U.heap.size U w3 → l.length + 1 ≤ e3 → PtPost w a (put l (x0, x1, x2, x3, x4)) (.returned (.slice a3 (l.length + 1) e3)) w3) := mkHid (fun U a3 e3 w3 h1 h2 h3 h4 h5 => pt_of (by rw [HP.out, hl0]) (by rw [HP.out]; exact h2) (.inr (fun b o s e => Nat.le_trans h1.size (h3 b o s e))) (below_trans h1 h4) h5)
      have HBD : Hid (∀ n, Below w.heap.size w (wr.drewN n)) := mkHid (fun n => below_drewN HB.out)
      have HbD : Hid (∀ n, (wr.drewN n).heap[w.heap.size]? = some (.cells #[.string x0, .string x1, .int .i64 x2, .int .i64 x3, .int .i64 x4] 33)) := mkHid (fun n => hb.out)
      clear hE hk hp hl0 HP HG HGb HB hb
      go_wp2_with fail
      go_quiet (fail)
      have B3 := mkHid (HBD.out nq)
      have b3 := mkHid (HbD.out nq)
      clear HBD HbD f0 f1 f2 f3 f4
      generalize wr.drewN nq = V at *
      go_wp2_with fail
      go_quiet (fail)
      have B4 := mkHid (below_drewN (n := nq) B3.out)
      have b4 : Hid ((V.drewN nq).heap[w.heap.size]? = some (.cells #[.string x0, .string x1, .int .i64 x2, .int .i64 x3, .int .i64 x4] 33)) := mkHid b3.out
      clear B3 b3
      generalize V.drewN nq = U at *
      obtain ⟨a1, e1, w1, a2, e2, w2, a3, e3, w3, happ1, happ2, happ3, ho, hg, hB, hcap, hB1⟩ := HTh.out U B4.out
      obtain ⟨d0, d1, d2, d3, d4⟩ := cel5 (blk_below b4.out hB1)
      have HF := mkHid (HQ.out U a3 e3 w3 B4.out ho hg hB hcap)
      clear ho hg hB hcap hB1 HQ HTh B4 b4
      go_wp2
      go_ret
      exact HF.out
end Go.Proofs.YtppjbmmeacmoiaaDoor.plc
