/-
  What spec.MatrixPick answers and leaves. Conditions: at most 1,048,576 cells and rows, which lie in memory; the cells' slice has no room behind its end.
-/
import Derived.Test.YtoklibbefjnlhabPickP
import Derived.Test.YtoklibbefjnlhabGrid
import Derived.Deep.QuietTactic
import Derived.BigQuiet
import Derived.BigRegion
namespace Go.Proofs.Ytoklibbefjnlhab.pick
open Go.RowKit Go.Joins
open Go.Proofs.Ytoklibbefjnlhab.base Go.Proofs.Ytoklibbefjnlhab.ints Go.Proofs.Ytoklibbefjnlhab.mats Go.Proofs.Ytoklibbefjnlhab.right Go.Proofs.Ytoklibbefjnlhab.grid
set_option linter.unusedVariables false

/-- append, folded: so that a fact of its run, laid ahead of a region, is met -/
def appSem (ts : Array TypeId) (ty : TypeId) (vs : Array Value) : Sem Value := Builtin.append_ ts ty vs
theorem app_fold (ts : Array TypeId) (ty : TypeId) (vs : Array Value) : Builtin.append_ ts ty vs = appSem ts ty vs := rfl
attribute [local go_sem ↓] app_fold

/-- the answer's variable, still empty -/
def zeroOut : Obj := .cells #[.int .i64 0, .int .i64 0, .slice none 0 0, .int .i64 0] 32

set_option maxRecDepth 100000 in
set_option maxHeartbeats 1000000 in
theorem spec_big (R C : Int) (a b : Option Addr) (cap capb : Nat) (zs rs : List Int) (w : World) (hl : zs.length ≤ 1048576) (hlr : rs.length ≤ 1048576) (h : 400 < rs.length) :
    Calls Try.prog 10 #[mat R C a zs.length cap, .slice b rs.length capb] w fun e w' => SPost w (pick R C zs rs) e w' := by
  have hi : 400 < (rs.length : Int) := by omega
  have HP := mkHid (pick_big (R := R) (C := C) (zs := zs) h)
  unfold mat
  go_enter Try.func10, Try.ntmps10
  go_wp2_with fail
  refine (ill_any 2 _).mono ?_
  rintro e w1 ⟨rfl, hb1⟩
  have k1 := blk_below (blk_new (w.alloc (.cells #[.int .i64 R, .int .i64 C, .slice a zs.length cap] 27)) zeroOut (w.heap.size + 1) (by simp)) hb1
  have B := mkHid (below_allocs (os := [_, _]) hb1)
  have c0 : w1.cell? ⟨w.heap.size + 1, 0, none⟩ = some (.int .i64 0) := cell_of_block k1 0
  have c1 : w1.cell? ⟨w.heap.size + 1, 1, none⟩ = some (.int .i64 0) := cell_of_block k1 1
  have c2 : w1.cell? ⟨w.heap.size + 1, 2, none⟩ = some (.slice none 0 0) := cell_of_block k1 2
  have c3 : w1.cell? ⟨w.heap.size + 1, 3, none⟩ = some (.int .i64 0) := cell_of_block k1 3
  have f1 : ∀ j, w1.frozen? ⟨w.heap.size + 1, j, none⟩ = false := unfrozen_of_block k1
  clear k1 hb1
  unfold mout
  go_wp2
  exact bodyPost_ret (v := mout 0 0 none 0 0 2) (by simp [results, Try.results10, go_sem, c0, c1, c2, c3, mout]) rfl
    (spost_ill HP.out ((((B.out.setCell (by simp) _).setCell (by simp) _).setCell (by simp) _).setCell (by simp) _))

set_option maxRecDepth 100000 in
set_option maxHeartbeats 1000000 in
theorem spec_ill (R C : Int) (a b : Option Addr) (cap capb : Nat) (zs rs : List Int) (w : World) (hl : zs.length ≤ 1048576) (hr : Rd w a zs) (h : ¬ 400 < rs.length) (h2 : right R C zs = false ∨ rs.length < 1 ∨ 16 < rs.length) :
    Calls Try.prog 10 #[mat R C a zs.length cap, .slice b rs.length capb] w fun e w' => SPost w (pick R C zs rs) e w' := by
  have hi : (rs.length : Int) ≤ 400 := by omega
  have HP := mkHid (pick_ill (R := R) (C := C) (zs := zs) h h2)
  have h3 : right R C zs = false ∨ (right R C zs = true ∧ (rs.length : Int) < 1) ∨ (right R C zs = true ∧ 1 ≤ (rs.length : Int) ∧ 16 < (rs.length : Int)) := by
    cases hx : right R C zs
    · exact .inl rfl
    · rcases h2 with h2 | h2 | h2
      · rw [hx] at h2; cases h2
      · exact .inr (.inl ⟨rfl, by omega⟩)
      · exact .inr (.inr ⟨rfl, by omega, by omega⟩)
  have HR := mkHid (fun wx (hb : Below w.heap.size w wx) => right.spec_any R C a cap zs wx hl (hr.below hb))
  unfold mat at HR ⊢
  go_enter Try.func10, Try.ntmps10
  go_wp2_with fail
  refine (HR.out _ (below_alloc2 w _ _)).mono ?_
  rintro e w1 ⟨rfl, hb1⟩
  have K := mkHid (And.intro (blk_below (blk_new (w.alloc (.cells #[.int .i64 R, .int .i64 C, .slice a zs.length cap] 27)) zeroOut (w.heap.size + 1) (by simp)) hb1) (below_allocs (os := [_, _]) hb1))
  clear hb1 HR hr h h2
  generalize right R C zs = r at *
  rcases h3 with rfl | ⟨rfl, h4⟩ | ⟨rfl, h4, h5⟩
  all_goals
    go_wp2_with fail
    refine (ill_any 1 _).mono ?_
    rintro e w2 ⟨rfl, hb2⟩
    have k1 := blk_below K.out.1 hb2
    have B := mkHid (K.out.2.trans (hb2.mono K.out.2.size))
    have c0 : w2.cell? ⟨w.heap.size + 1, 0, none⟩ = some (.int .i64 0) := cell_of_block k1 0
    have c1 : w2.cell? ⟨w.heap.size + 1, 1, none⟩ = some (.int .i64 0) := cell_of_block k1 1
    have c2 : w2.cell? ⟨w.heap.size + 1, 2, none⟩ = some (.slice none 0 0) := cell_of_block k1 2
    have c3 : w2.cell? ⟨w.heap.size + 1, 3, none⟩ = some (.int .i64 0) := cell_of_block k1 3
    have f1 : ∀ j, w2.frozen? ⟨w.heap.size + 1, j, none⟩ = false := unfrozen_of_block k1
    clear k1 hb2
    unfold mout
    go_wp2
    exact bodyPost_ret (v := mout 0 0 none 0 0 1) (by simp [results, Try.results10, go_sem, c0, c1, c2, c3, mout]) rfl
      (spost_ill HP.out ((((B.out.setCell (by simp) _).setCell (by simp) _).setCell (by simp) _).setCell (by simp) _))

/-- the state of the loop: what was picked so far -/
structure Lp (w : World) (D : Nat) (n : Nat) (C : Int) (box : Obj) (va : Option Addr) (vc : Nat) (acc : List Int) (wr : World) : Prop where
  below : Below w.heap.size w wr
  bx : wr.heap[w.heap.size]? = some box
  res : wr.heap[w.heap.size + 1]? = some zeroOut
  out : wr.heap[D]? = some (.cells #[.int .i64 n, .int .i64 C, .slice va acc.length vc] 27)
  own : wr.ownsRow (D + 1) 2 1 (.slice va acc.length vc) acc.length (acc.map intV)

theorem own_nil (w : World) (B : Nat) : w.ownsRow B 2 1 (.slice none 0 0) 0 [] := ⟨rfl, .inl ⟨rfl, rfl⟩⟩

theorem rd_owns {w : World} {B : Nat} {va : Option Addr} {vc : Nat} {acc : List Int} (h : w.ownsRow B 2 1 (.slice va acc.length vc) acc.length (acc.map intV)) : Rd w va acc ∧ ∀ b o s, va = some ⟨b, o, s⟩ → B ≤ b := by
  obtain ⟨_, h2⟩ := h
  rcases h2 with ⟨e, hn⟩ | ⟨g, cap, cur, e, hB, hg, _, _, _, ht⟩
  · have h0 : acc = [] := List.eq_nil_of_length_eq_zero hn
    subst h0
    simp at e
    obtain ⟨rfl, _⟩ := e
    exact ⟨Rd.nil w, fun b o s h => by simp at h⟩
  · simp at e
    obtain ⟨rfl, rfl⟩ := e
    refine ⟨?_, fun b o s h => by simp at h; omega⟩
    intro i z hz
    refine ⟨g, 0, rfl, ?_⟩
    rw [cell_of_block hg]
    have hi : i < acc.length := (List.getElem?_eq_some_iff.1 hz).1
    have h1 : (cur.toList.take (acc.length * 1))[i]? = (acc.map intV)[i]? := by rw [ht]
    rw [List.getElem?_take_of_lt (by omega), List.getElem?_map, hz] at h1
    simpa [intV] using h1

theorem Lp.drew {w wr : World} {D n : Nat} {C : Int} {box : Obj} {va : Option Addr} {vc : Nat} {acc : List Int} (h : Lp w D n C box va vc acc wr) : Lp w D n C box va vc acc wr.drew := ⟨h.below.drew, h.bx, h.res, h.out, h.own⟩

theorem Lp.drewN {w wr : World} {D n : Nat} {C : Int} {box : Obj} {va : Option Addr} {vc : Nat} {acc : List Int} (h : Lp w D n C box va vc acc wr) (q : Nat) : Lp w D n C box va vc acc (wr.drewN q) := ⟨⟨h.below.os, h.below.tape, h.below.output, h.below.size, h.below.block⟩, h.bx, h.res, h.out, h.own⟩

theorem Lp.next {w wr w2 : World} {D n : Nat} {C : Int} {box : Obj} {va va' : Option Addr} {vc vc' : Nat} {acc acc' : List Int} (h : Lp w D n C box va vc acc wr) (hD : w.heap.size + 1 < D) (hg : wr.grownBy w2 (Value.slice va acc.length vc).ownBlock)
    (ho : w2.ownsRow (D + 1) 2 1 (.slice va' acc'.length vc') acc'.length (acc'.map intV)) : Lp w D n C box va' vc' acc' (w2.setCell ⟨D, 2, none⟩ (.slice va' acc'.length vc')) := by
  have hne : ∀ j, j ≤ D → some j ≠ (Value.slice va acc.length vc).ownBlock := fun j hj e => by
    have := (h.own.lt j e.symm).1
    omega
  have hlt : D < wr.heap.size := (Array.getElem?_eq_some_iff.1 h.out).1
  have g0 := (hg.block w.heap.size (by omega) (hne _ (by omega))).trans h.bx
  have g1 := (hg.block (w.heap.size + 1) (by omega) (hne _ (by omega))).trans h.res
  have g2 := (hg.block D hlt (hne _ (Nat.le_refl _))).trans h.out
  refine ⟨?_, blk_set g0 _ _ (by simp; omega), blk_set g1 _ _ (by simp; omega), ?_, ownsRow_setCell_below ho (by simp) _⟩
  · exact (h.below.grown hg (by have := h.below.size; omega) (fun j hj => by have := (h.own.lt j hj).1; omega)).setCell (by simp; omega) _
  · rw [block_setCell g2]
    simp

theorem Lp.held {w wr w2 : World} {D n : Nat} {C : Int} {box : Obj} {va : Option Addr} {vc : Nat} {acc : List Int} (h : Lp w D n C box va vc acc wr) (hg : wr.grownBy w2 (Value.slice va acc.length vc).ownBlock) : w2.heap[D]? = some (.cells #[.int .i64 n, .int .i64 C, .slice va acc.length vc] 27) :=
  (hg.block D (Array.getElem?_eq_some_iff.1 h.out).1 (fun e => by have := (h.own.lt D e.symm).1; omega)).trans h.out

theorem Lp.far {w wr w2 : World} {D n : Nat} {C : Int} {box : Obj} {va : Option Addr} {vc : Nat} {acc : List Int} (h : Lp w D n C box va vc acc wr) (hg : wr.grownBy w2 (Value.slice va acc.length vc).ownBlock) {a : Addr} {v : Value} (ha : a.block ≤ D) (hc : wr.cell? a = some v) : w2.cell? a = some v :=
  hg.cell hc (fun e => by have := (h.own.lt a.block e.symm).1; omega)

theorem Lp.step {w wr w2 : World} {D n m g c : Nat} {C : Int} {box : Obj} {va : Option Addr} {vc : Nat} {acc row : List Int} (h : Lp w D n C box va vc acc wr) (hD : w.heap.size + 1 < D) (hg : wr.grownBy w2 (Value.slice va acc.length vc).ownBlock) (hm : row.length = m)
    (ho : w2.ownsRow (D + 1) 2 1 (.slice (some ⟨g, 0, none⟩) (acc.length + m) c) (acc.length + m) (acc.map intV ++ row.map intV)) : Lp w D n C box (some ⟨g, 0, none⟩) c (acc ++ row) (w2.setCell ⟨D, 2, none⟩ (.slice (some ⟨g, 0, none⟩) (acc.length + m) c)) := by
  subst hm
  have e : (acc ++ row).length = acc.length + row.length := List.length_append
  have k := h.next (va' := some ⟨g, 0, none⟩) (vc' := c) (acc' := acc ++ row) hD hg (by rw [e, List.map_append]; exact ho)
  rw [e] at k
  exact k

theorem spost_ok {w wr : World} {D n m C' : Nat} {R : Int} {box : Obj} {va : Option Addr} {vc : Nat} {zs rs : List Int} (hp : pick R (C' : Int) zs rs = ((n : Int), (C' : Int), pickL (C' : Int).toNat zs rs, 0)) (hD : w.heap.size + 1 < D) (h : Lp w D m (C' : Int) box va vc (pickL C' zs rs) wr) (x0 x1 x2 x3 : Value) :
    SPost w (pick R (C' : Int) zs rs) (.returned (mout n C' va (pickL C' zs rs).length vc 0)) ((((wr.setCell ⟨w.heap.size + 1, 0, none⟩ x0).setCell ⟨w.heap.size + 1, 1, none⟩ x1).setCell ⟨w.heap.size + 1, 2, none⟩ x2).setCell ⟨w.heap.size + 1, 3, none⟩ x3) := by
  rw [hp, Int.toNat_natCast]
  obtain ⟨hr, hf⟩ := rd_owns h.own
  refine ⟨va, vc, rfl, ?_, fun b o s e => by have := hf b o s e; omega, (((h.below.setCell (by simp) _).setCell (by simp) _).setCell (by simp) _).setCell (by simp) _⟩
  refine hr.block (fun b o e _ => ?_)
  have hb := hf b o none e
  have hne : b ≠ w.heap.size + 1 := by omega
  rw [Below.heap_setCell _ _ _ _ (by simpa using hne), Below.heap_setCell _ _ _ _ (by simpa using hne), Below.heap_setCell _ _ _ _ (by simpa using hne), Below.heap_setCell _ _ _ _ (by simpa using hne)]

set_option maxRecDepth 100000 in
set_option maxHeartbeats 2000000 in
theorem spec_ok (R C : Nat) (b0 off0 : Nat) (b : Option Addr) (capb : Nat) (zs rs : List Int) (w : World) (hl : zs.length = R * C) (hR1 : 1 ≤ R) (hR : R ≤ 16) (hC1 : 1 ≤ C) (hC : C ≤ 16) (hr : Rd w (some ⟨b0, off0, none⟩) zs) (hrs : Rd w b rs)
    (h1 : 1 ≤ rs.length) (h2 : rs.length ≤ 16) (hrt : right (R : Int) (C : Int) zs = true) :
    Calls Try.prog 10 #[mat R C (some ⟨b0, off0, none⟩) zs.length zs.length, .slice b rs.length capb] w fun e w' => SPost w (pick R C zs rs) e w' := by
  have hlz : zs.length ≤ 256 := by
    have := Nat.mul_le_mul hR hC
    omega
  have HR : Hid (∀ wx, Below w.heap.size w wx → Calls Try.prog 6 #[.agg #[.int .i64 R, .int .i64 C, .slice (some ⟨b0, off0, none⟩) zs.length zs.length]] wx fun e w' => e = .returned (.bool true) ∧ Below wx.heap.size wx w') :=
    mkHid (fun wx hb => by have k := right.spec_any R C _ zs.length zs wx (by omega) (hr.below hb); rw [hrt] at k; exact k)
  have hi1 : 1 ≤ (rs.length : Int) := by omega
  have hi2 : (rs.length : Int) ≤ 16 := by omega
  have HL := mkHid (And.intro hl (And.intro hr hrs))
  have hrt' := mkHid hrt
  clear hl hrt hr hrs
  unfold mat
  go_enter Try.func10, Try.ntmps10
  go_wp2_with fail
  refine (HR.out _ (below_alloc2 w _ _)).mono ?_
  rintro e w1 ⟨rfl, hb1⟩
  have k0 := blk_below (blk_old (blk_new w (.cells #[.int .i64 R, .int .i64 C, .slice (some ⟨b0, off0, none⟩) zs.length zs.length] 27) w.heap.size rfl) zeroOut) hb1
  have k1 := blk_below (blk_new (w.alloc (.cells #[.int .i64 R, .int .i64 C, .slice (some ⟨b0, off0, none⟩) zs.length zs.length] 27)) zeroOut (w.heap.size + 1) (by simp)) hb1
  have B := below_allocs (os := [_, _]) hb1
  have c1 : w1.cell? ⟨w.heap.size, 1, none⟩ = some (.int .i64 C) := cell_of_block k0 1
  have hD : w.heap.size + 1 < w1.heap.size := (Array.getElem?_eq_some_iff.1 k1).1
  have K := mkHid (And.intro B (And.intro k0 k1))
  clear hb1 k0 k1 B HR
  go_wp2
  go_loopw [6] (fun i wr => ∃ (k : Nat) (va : Option Addr) (vc : Nat), k ≤ rs.length ∧ i = .int .i64 k ∧ Hid ((rs.take k).all (inR R) = true) ∧ Hid (Lp w w1.heap.size rs.length C (.cells #[.int .i64 R, .int .i64 C, .slice (some ⟨b0, off0, none⟩) zs.length zs.length] 27) va vc (pickL C zs (rs.take k)) wr))
    (fun i _ => rs.length - (intOf i).toNat)
  case atStart =>
    refine ⟨0, none, 0, Nat.zero_le _, rfl, mkHid (by simp), mkHid ⟨K.out.1.alloc K.out.1.size _, blk_old K.out.2.1 _, blk_old K.out.2.2 _, blk_new w1 _ _ rfl, own_nil _ _⟩⟩
  case round =>
    obtain ⟨k, va, vc, hk, rfl, hall, hlp⟩ := hrel
    have d0 : wr.cell? ⟨w.heap.size, 0, none⟩ = some (.int .i64 R) := cell_of_block hlp.out.bx 0
    have d1 : wr.cell? ⟨w.heap.size, 1, none⟩ = some (.int .i64 C) := cell_of_block hlp.out.bx 1
    have d2 : wr.cell? ⟨w.heap.size, 2, none⟩ = some (.slice (some ⟨b0, off0, none⟩) zs.length zs.length) := cell_of_block hlp.out.bx 2
    have o0 : wr.cell? ⟨w1.heap.size, 0, none⟩ = some (.int .i64 rs.length) := cell_of_block hlp.out.out 0
    have o1 : wr.cell? ⟨w1.heap.size, 1, none⟩ = some (.int .i64 C) := cell_of_block hlp.out.out 1
    have o2 : wr.cell? ⟨w1.heap.size, 2, none⟩ = some (.slice va (pickL C zs (rs.take k)).length vc) := cell_of_block hlp.out.out 2
    have hne1 : ¬ (w.heap.size = w1.heap.size) := by omega
    by_cases hlt : k < rs.length
    · obtain ⟨r, hrk⟩ : ∃ r, rs[k]? = some r := ⟨_, List.getElem?_eq_getElem hlt⟩
      obtain ⟨b1, off1, rfl, hc⟩ := HL.out.2.2 k r hrk
      have hcell : wr.cell? ⟨b1, off1 + k, none⟩ = some (.int .i64 r) := (hlp.out.below.cell (p := ⟨b1, off1 + k, none⟩) (World.block_lt_of_cell? w _ hc)).trans hc
      have hlti : (k : Int) < (rs.length : Int) := by omega
      cases hin : inR R r
      · have HP := mkHid (pick_not (R := R) (C := C) (zs := zs) (rs := rs) (by omega) (ok_cond hrt'.out h1 h2) (all_not hrk hin))
        have h3 : r < 0 ∨ (0 ≤ r ∧ (R : Int) ≤ r) := by simp [inR] at hin; omega
        clear hc hrk hin hall
        have h5 : (decide (r < 0) = true ∧ r < 0) ∨ (decide (r < 0) = false ∧ decide ((R : Int) ≤ r) = true ∧ 0 ≤ r ∧ (R : Int) ≤ r) := by
          rcases h3 with h3 | ⟨h3, h4⟩
          · exact .inl ⟨decide_eq_true h3, h3⟩
          · exact .inr ⟨decide_eq_false (by omega), decide_eq_true h4, h3, h4⟩
        clear h3
        rcases h5 with ⟨h5, h3⟩ | ⟨h5, h6, h3, h4⟩
        all_goals
          go_wp2_with fail
          go_quiet (fail)
          go_wp2_with fail
          first | refine (ill_any 1 _).mono ?_ | (go_wp2_with fail; refine (ill_any 1 _).mono ?_)
          rintro e w2 ⟨rfl, hb2⟩
          have b2 : Below wr.heap.size wr w2 := ⟨hb2.os, hb2.tape, hb2.output, hb2.size, hb2.block⟩
          have k1 := blk_below hlp.out.res b2
          have B2 := mkHid (hlp.out.below.trans (b2.mono hlp.out.below.size))
          have c0 : w2.cell? ⟨w.heap.size + 1, 0, none⟩ = some (.int .i64 0) := cell_of_block k1 0
          have c1 : w2.cell? ⟨w.heap.size + 1, 1, none⟩ = some (.int .i64 0) := cell_of_block k1 1
          have c2 : w2.cell? ⟨w.heap.size + 1, 2, none⟩ = some (.slice none 0 0) := cell_of_block k1 2
          have c3 : w2.cell? ⟨w.heap.size + 1, 3, none⟩ = some (.int .i64 0) := cell_of_block k1 3
          have f1 : ∀ j, w2.frozen? ⟨w.heap.size + 1, j, none⟩ = false := unfrozen_of_block k1
          clear k1 hb2 b2 hlp
          unfold mout
          go_wp2
          exact bodyPost_ret (v := mout 0 0 none 0 0 1) (by simp [results, Try.results10, go_sem, c0, c1, c2, c3, mout]) rfl
            (spost_ill HP.out ((((B2.out.setCell (by simp) _).setCell (by simp) _).setCell (by simp) _).setCell (by simp) _))
      · have hin' : 0 ≤ r ∧ r < (R : Int) := by simpa [inR] using hin
        obtain ⟨q, rfl⟩ := Int.eq_ofNat_of_zero_le hin'.1
        have N1 := mkHid (all_next hrk hall.out hin)
        have hqR : q < R := by omega
        have fit := row_fit HL.out.1 hqR
        have HN := mkHid (pickL_next C zs rs k q hrk)
        have hrl := rowL_len HL.out.1 hqR
        have HC : Hid (∀ j u, ((rowL C zs (q : Int)).map intV)[j]? = some u → wr.cell? ((⟨b0, off0 + q * C, none⟩ : Addr).add j) = some u) := by
          intro j u hj
          rw [List.getElem?_map] at hj
          cases hz : (rowL C zs (q : Int))[j]? with
          | none => rw [hz] at hj; simp at hj
          | some z =>
            rw [hz] at hj
            simp at hj
            subst hj
            obtain ⟨b', off', e, hc'⟩ := (HL.out.2.1.below hlp.out.below) _ z (rowL_at hz)
            simp at e
            obtain ⟨rfl, rfl⟩ := e
            rw [Addr.add_lit, Nat.add_assoc]
            exact hc'
        obtain ⟨lo, hlo⟩ : ∃ lo, lo = q * C := ⟨_, rfl⟩
        rw [← hlo] at fit HC
        have e1 : (q : Int) * (C : Int) = (lo : Int) := by rw [hlo]; simp
        have e2 : ((q : Int) + 1) * (C : Int) = (lo : Int) + (C : Int) := by rw [Int.add_mul, e1]; omega
        have hd1 : decide ((q : Int) < 0) = false := decide_eq_false (by omega)
        have hd2 : decide ((R : Int) ≤ (q : Int)) = false := decide_eq_false (by omega)
        have hall2 := hall
        have hb1 : b1 < w.heap.size := World.block_lt_of_cell? w ⟨b1, off1 + k, none⟩ hc
        clear hlo hin hin' hc hrk hall
        go_wp2_with fail
        go_quiet (fail)
        go_wp2_with fail
        rename_i nq _
        have L2 := mkHid (hlp.out.drewN nq)
        have H2 : Hid (∀ j u, ((rowL C zs (q : Int)).map intV)[j]? = some u → (wr.drewN nq).cell? ((⟨b0, off0 + lo, none⟩ : Addr).add j) = some u) := HC.out
        have hc2 : (wr.drewN nq).cell? ⟨b1, off1 + k, none⟩ = some (.int .i64 q) := hcell
        clear HC hcell hlp d0 d1 d2 o0 o1 o2
        generalize wr.drewN nq = W at *
        have d0 : W.cell? ⟨w.heap.size, 0, none⟩ = some (.int .i64 R) := cell_of_block L2.out.bx 0
        have d1 : W.cell? ⟨w.heap.size, 1, none⟩ = some (.int .i64 C) := cell_of_block L2.out.bx 1
        have d2 : W.cell? ⟨w.heap.size, 2, none⟩ = some (.slice (some ⟨b0, off0, none⟩) zs.length zs.length) := cell_of_block L2.out.bx 2
        have o2 : W.cell? ⟨w1.heap.size, 2, none⟩ = some (.slice va (pickL C zs (rs.take k)).length vc) := cell_of_block L2.out.out 2
        have hW : w1.heap.size < W.heap.size := (Array.getElem?_eq_some_iff.1 L2.out.out).1
        have hacc : (pickL C zs (rs.take k)).length ≤ 256 := by
          rw [pickL_len HL.out.1 _ (hall2.out), List.length_take]
          have := Nat.mul_le_mul (show min k rs.length ≤ 16 by omega) hC
          omega
        generalize pickL C zs (rs.take k) = acc at *
        obtain ⟨i0, hi, hz0, hz1, hz2⟩ := info_parts info2
        have q1 : IntKind.i64.wrap ((q : Int) * (C : Int)) = (lo : Int) := by rw [e1]; simp [IntKind.wrap, IntKind.bits, IntKind.signed]; omega
        have q2 : IntKind.i64.wrap ((q : Int) + 1) = (q : Int) + 1 := by simp [IntKind.wrap, IntKind.bits, IntKind.signed]; omega
        have q3 : IntKind.i64.wrap (((q : Int) + 1) * (C : Int)) = (lo : Int) + (C : Int) := by rw [e2]; simp [IntKind.wrap, IntKind.bits, IntKind.signed]; omega
        have q4 : ((lo : Int) + (C : Int)).toNat = lo + C := by omega
        have q5 : ¬ (zs.length = lo) := by omega
        have q6 : (lo : Int) + (C : Int) ≤ (zs.length : Int) := by omega
        have q7 : (lo : Int) ≤ (lo : Int) + (C : Int) := by omega
        have hqi : (q : Int) ≤ 16 := by omega
        have hnl : ((rowL C zs (q : Int)).map intV).length = C * 1 := by simp [hrl]
        have hon := one_ints (rowL C zs (q : Int))
        clear e1 e2 hd1 hd2
        obtain ⟨v', w2, happ0, hown, hgrow, _⟩ := run_append_own (P := Try.prog) W.drew (w1.heap.size + 1) 22 22 2 i0 (.int .i64 0) 1 8 Try.underlying22 hi hz0 hz1 hz2 rfl (by decide) (.slice va acc.length vc) acc.length (acc.map intV) L2.out.drew.own ⟨b0, off0 + lo, none⟩ C (zs.length - lo) ((rowL C zs (q : Int)).map intV) hnl H2.out hon (by unfold maxLen; omega) (by omega) (by show _ ≤ W.heap.size; omega)
        obtain ⟨g', c', rfl⟩ := ownsRow_form hown (by omega)
        have happ : (appSem #[22, 22] 22 #[.slice va acc.length vc, .slice (some ⟨b0, off0 + lo, none⟩) C (zs.length - lo)]).run Try.prog W.drew = .ok (.slice (some ⟨g', 0, none⟩) (acc.length + C) c') w2 := happ0
        have hg2 : W.grownBy w2 (Value.slice va acc.length vc).ownBlock := ⟨hgrow.os, hgrow.tape, hgrow.output, hgrow.size, hgrow.block⟩
        have kk := L2.out.held hg2
        have p2 : w2.cell? ⟨w1.heap.size, 2, none⟩ = some (.slice va acc.length vc) := cell_of_block kk 2
        have pf : w2.frozen? ⟨w1.heap.size, 2, none⟩ = false := unfrozen_of_block kk 2
        have L3 := mkHid (L2.out.step hD hg2 hrl hown)
        clear kk hg2 hgrow hown happ0 hnl hon hrl hi hz0 hz1 hz2 H2
        go_region
        all_goals
          clear L2 d0 d1 d2 o2 q1 q2 q3 q4 q5 q6 q7 hc2 happ
          go_wp2
          go_roundw
          case rel => exact ⟨k + 1, some ⟨g', 0, none⟩, c', by omega, by go_num, N1, mkHid (by rw [HN.out]; exact L3.out)⟩
          case measure => simp [intOf]; omega
    · obtain rfl : k = rs.length := by omega
      have ha := hall.out
      have hl2 := hlp.out
      rw [List.take_of_length_le (Nat.le_refl _)] at ha hl2 o2
      have HP := mkHid (pick_ok (R := R) (C := C) (zs := zs) (rs := rs) (by omega) (ok_cond hrt'.out h1 h2) ha)
      have k1 := hl2.res
      have c0 : wr.cell? ⟨w.heap.size + 1, 0, none⟩ = some (.int .i64 0) := cell_of_block k1 0
      have c1 : wr.cell? ⟨w.heap.size + 1, 1, none⟩ = some (.int .i64 0) := cell_of_block k1 1
      have c2 : wr.cell? ⟨w.heap.size + 1, 2, none⟩ = some (.slice none 0 0) := cell_of_block k1 2
      have c3 : wr.cell? ⟨w.heap.size + 1, 3, none⟩ = some (.int .i64 0) := cell_of_block k1 3
      have f1 : ∀ j, wr.frozen? ⟨w.heap.size + 1, j, none⟩ = false := unfrozen_of_block k1
      have H2 := mkHid hl2
      clear k1 hl2 ha hall hlp
      go_wp2
      exact bodyPost_ret (v := mout rs.length C va (pickL C zs rs).length vc 0) (by simp [results, Try.results10, go_sem, c0, c1, c2, c3, mout]) rfl
        (spost_ok HP.out hD H2.out _ _ _ _)

theorem spec_any (R C : Int) (a b : Option Addr) (capb : Nat) (zs rs : List Int) (w : World) (hl : zs.length ≤ 1048576) (hlr : rs.length ≤ 1048576) (hr : Rd w a zs) (hrs : Rd w b rs) :
    Calls Try.prog 10 #[mat R C a zs.length zs.length, .slice b rs.length capb] w fun e w' => SPost w (pick R C zs rs) e w' := by
  by_cases h1 : 400 < rs.length
  · exact spec_big R C a b zs.length capb zs rs w hl hlr h1
  by_cases h2 : right R C zs = false ∨ rs.length < 1 ∨ 16 < rs.length
  · exact spec_ill R C a b zs.length capb zs rs w hl hr h1 h2
  have h3 : right R C zs = true := by
    cases hx : right R C zs
    · exact absurd (.inl hx) h2
    · rfl
  obtain ⟨r, c, rfl, rfl, k1, k2, k3, k4, k5⟩ := right_nat h3
  obtain ⟨z, hz⟩ : ∃ z, zs[0]? = some z := ⟨_, List.getElem?_eq_getElem (by rw [k5]; exact Nat.mul_pos k1 k3)⟩
  obtain ⟨b0, off0, rfl, _⟩ := hr 0 z hz
  exact spec_ok r c b0 off0 b capb zs rs w k5 k1 k2 k3 k4 hr hrs (by omega) (by omega) h3

end Go.Proofs.Ytoklibbefjnlhab.pick
