/-
  What impl.MatrixPick answers and leaves where the matrix is right and the rows are 1 to 16. Conditions: the cells and the rows lie in memory; the cells' slice has no room behind its end.
-/
import Derived.Test.YtoklibbefjnlhabPickI
import Derived.Deep.RegionHeld3
namespace Go.Proofs.Ytoklibbefjnlhab.picki
open Go.RowKit Go.Joins
open Go.Proofs.Ytoklibbefjnlhab.base Go.Proofs.Ytoklibbefjnlhab.ints Go.Proofs.Ytoklibbefjnlhab.mats Go.Proofs.Ytoklibbefjnlhab.right Go.Proofs.Ytoklibbefjnlhab.grid Go.Proofs.Ytoklibbefjnlhab.pick
set_option linter.unusedVariables false

/-- behind the two grids: where they lie, and what they hold -/
structure Gs (w : World) (box : Obj) (C n : Nat) (zs ys : List Int) (p6 p7 gf cf gn : Nat) (wx : World) : Prop where
  below : Below w.heap.size w wx
  bx : wx.heap[w.heap.size]? = some box
  res : wx.heap[w.heap.size + 1]? = some zeroOut
  s0 : wx.cell? ⟨p6, 0, none⟩ = some (.int .i64 C)
  s1 : wx.cell? ⟨p6, 1, none⟩ = some (.slice (some ⟨gf, 0, none⟩) zs.length cf)
  d0 : wx.cell? ⟨p7, 0, none⟩ = some (.int .i64 C)
  d1 : wx.cell? ⟨p7, 1, none⟩ = some (.slice (some ⟨gn, 0, none⟩) n n)
  rd : Rd wx (some ⟨gf, 0, none⟩) zs
  room : zs.length ≤ cf
  own : Own wx gn ys
  new : w.heap.size + 1 < gn
  ne6 : gn ≠ p6
  ne7 : gn ≠ p7
  nef : gn ≠ gf

/-- an empty grid's variable -/
def zeroGrid : Obj := .cells #[.int .i64 0, .slice none 0 0] 44

/-- cells of a block that begin with these numbers -/
def Begins (cur : Array Value) (zs : List Int) : Prop := ∀ (i : Nat) (z : Int), zs[i]? = some z → cur[i]? = some (Value.int .i64 z)
theorem rd_begins {w : World} {g : Nat} {cur : Array Value} {zs : List Int} (hg : w.heap[g]? = some (.cells cur 2 (0, 0))) (hc : Begins cur zs) : Rd w (some ⟨g, 0, none⟩) zs := by
  intro i z hz
  refine ⟨g, 0, rfl, ?_⟩
  rw [cell_of_block hg, Nat.zero_add]
  exact hc i z hz
theorem box_cells {F : World} {g : Nat} {x y z : Value} (h : F.heap[g]? = some (.cells #[x, y, z] 27 (0, 0))) : F.cell? ⟨g, 0, none⟩ = some x ∧ F.cell? ⟨g, 1, none⟩ = some y ∧ F.cell? ⟨g, 2, none⟩ = some z := ⟨cell_of_block h 0, cell_of_block h 1, cell_of_block h 2⟩
theorem cs_same {w : World} {b i : Nat} {u v : Value} (h : w.cell? ⟨b, i, none⟩ = some u) : (w.setCell ⟨b, i, none⟩ v).cell? ⟨b, i, none⟩ = some v := World.cell?_setCell_same w ⟨b, i, none⟩ v h
theorem cs_far {w : World} {b i b' j : Nat} {x v : Value} (hne : b ≠ b') (h : w.cell? ⟨b', j, none⟩ = some x) : (w.setCell ⟨b, i, none⟩ v).cell? ⟨b', j, none⟩ = some x := (World.cell?_setCell_far w ⟨b, i, none⟩ ⟨b', j, none⟩ v hne).trans h
theorem cs_off {w : World} {b i j : Nat} {x v : Value} (hne : i ≠ j) (h : w.cell? ⟨b, j, none⟩ = some x) : (w.setCell ⟨b, i, none⟩ v).cell? ⟨b, j, none⟩ = some x := by
  rw [← h]
  simp [World.cell?, World.setCell, Array.getElem?_modify]
  cases hb : w.heap[b]? with
  | none => simp
  | some o => cases o <;> simp [hne]
theorem ca_old {w : World} {a : Addr} {x : Value} (o : Obj) (h : w.cell? a = some x) : (w.alloc o).cell? a = some x := (World.cell?_alloc_lt w o a (World.block_lt_of_cell? w a h)).trans h
theorem ca_new {w : World} {j i : Nat} {cs : Array Value} {t : TypeId} {x : Value} (hj : j = w.heap.size) (h : cs[i]? = some x) : (w.alloc (.cells cs t)).cell? ⟨j, i, none⟩ = some x := by
  rw [cell_of_block (blk_new w _ j hj)]; exact h
theorem below_from {a x b : World} (h : Below a.heap.size a x) (hb : Below x.heap.size x b) : Below a.heap.size a b := h.trans (hb.mono h.size)
theorem owns_block {w : World} {B g n c : Nat} {zs : List Int} (h : w.ownsRow B 2 1 (.slice (some ⟨g, 0, none⟩) zs.length c) zs.length (zs.map intV)) :
    ∃ cur : Array Value, w.heap[g]? = some (.cells cur 2 (0, 0)) ∧ Begins cur zs ∧ B ≤ g ∧ zs.length ≤ c := by
  obtain ⟨_, h2⟩ := h
  rcases h2 with ⟨e, _⟩ | ⟨g', cap, cur, e, hB, hg, hnc, _, _, ht⟩
  · simp at e
  · simp at e
    obtain ⟨rfl, rfl⟩ := e
    refine ⟨cur, hg, ?_, hB, hnc⟩
    intro i z hz
    have hi : i < zs.length := (List.getElem?_eq_some_iff.1 hz).1
    have h1 : (cur.toList.take (zs.length * 1))[i]? = (zs.map intV)[i]? := by rw [ht]
    rw [List.getElem?_take_of_lt (by omega), List.getElem?_map, hz] at h1
    simpa [intV] using h1

/-- copy, folded: so that a fact of its run, laid ahead of a region's step, is met -/
def copySem (ts : Array TypeId) (ty : TypeId) (vs : Array Value) : Sem Value := Builtin.copy_ ts ty vs
theorem copy_fold (ts : Array TypeId) (ty : TypeId) (vs : Array Value) : Builtin.copy_ ts ty vs = copySem ts ty vs := rfl
attribute [local go_sem ↓] copy_fold

theorem copy_run (w : World) (g lo a0 C cd cs : Nat) (gf : Nat) (ys row : List Int) (ho : Own w g ys) (hr : row.length = C) (hfit : lo + C ≤ ys.length) (hsrc : ∀ j z, row[j]? = some z → w.cell? ⟨gf, a0 + j, none⟩ = some (.int .i64 z)) :
    ∃ w5, (∀ ty, (copySem #[22, 22] ty #[.slice (some ⟨g, lo, none⟩) C cd, .slice (some ⟨gf, a0, none⟩) C cs]).run Try.prog w = .ok (.int .i64 C) w5) ∧ Own w5 g (ys.take lo ++ row ++ ys.drop (lo + C)) ∧ w.grownBy w5 (some g) := by
  have e1 : (row.map intV).length = C := by simp [hr]
  have e2 : (ys.map intV).toArray.toList.take lo ++ row.map intV ++ (ys.map intV).toArray.toList.drop (lo + C) = (ys.take lo ++ row ++ ys.drop (lo + C)).map intV := by simp [List.map_take, List.map_drop]
  have key : ∀ ty, (Builtin.copy_ #[22, 22] ty #[.slice (some ⟨g, lo, none⟩) C cd, .slice (some ⟨gf, a0, none⟩) C cs]).run Try.prog w = .ok (goInt C) (w.setRow g ((ys.take lo ++ row ++ ys.drop (lo + C)).map intV).toArray) := fun ty => by
    have k := run_copy_row Try.prog w 22 22 ty 2 g lo C cd ⟨gf, a0, none⟩ C cs (ys.map intV).toArray 2 (row.map intV) Try.underlying22 info2s ho (by rw [e1]; simp) (by
      intro j v hj
      rw [List.getElem?_map] at hj
      cases hz : row[j]? with
      | none => rw [hz] at hj; simp at hj
      | some z =>
        rw [hz] at hj
        simp at hj
        subst hj
        rw [Addr.add_lit]
        exact hsrc j z hz) (by rw [e1]; simp; omega) (one_ints row)
    rw [e1, e2] at k
    exact k
  refine ⟨_, key, setRow_heap w g _ _ _ _ ho, ⟨rfl, rfl, rfl, by simp, fun k hk hne => setRow_other w g k _ (fun e => hne (by rw [e]))⟩⟩

theorem Gs.step {w wr w4 w5 : World} {box : Obj} {C n : Nat} {zs ys ys' : List Int} {p6 p7 gf cf gn : Nat} (h : Gs w box C n zs ys p6 p7 gf cf gn wr) (hb : Below wr.heap.size wr w4) (hg : w4.grownBy w5 (some gn)) (ho : Own w5 gn ys') : Gs w box C n zs ys' p6 p7 gf cf gn w5 := by
  have hn := h.own.lt
  have hkeep : ∀ j, j < wr.heap.size → j ≠ gn → w5.heap[j]? = wr.heap[j]? := fun j hj hne => (hg.block j (Nat.lt_of_lt_of_le hj hb.size) (by simpa using hne)).trans (hb.block j hj)
  have hcell : ∀ (p i : Nat) (v : Value), gn ≠ p → wr.cell? ⟨p, i, none⟩ = some v → w5.cell? ⟨p, i, none⟩ = some v := fun p i v hne hc => by
    rw [World.cell?_of_block (w := wr) (a := ⟨p, i, none⟩) (hkeep p (World.block_lt_of_cell? wr ⟨p, i, none⟩ hc) (Ne.symm hne))]; exact hc
  have hnew := h.new
  refine ⟨(h.below.trans (hb.mono h.below.size)).grown hg (Nat.le_trans h.below.size hb.size) (fun k hk => by simp at hk; omega), (hkeep _ (by omega) (by omega)).trans h.bx, (hkeep _ (by omega) (by omega)).trans h.res, hcell _ _ _ h.ne6 h.s0, hcell _ _ _ h.ne6 h.s1, hcell _ _ _ h.ne7 h.d0, hcell _ _ _ h.ne7 h.d1, ?_, h.room, ho, h.new, h.ne6, h.ne7, h.nef⟩
  exact h.rd.block (fun b o e hb' => by simp at e; obtain ⟨rfl, _⟩ := e; exact hkeep _ hb' (Ne.symm h.nef))

/-- what was picked so far, and zeros behind it -/
def soFar (C n : Nat) (zs rs : List Int) (k : Nat) : List Int := pickL C zs (rs.take k) ++ List.replicate (n - k * C) 0
theorem soFar_zero (C n : Nat) (zs rs : List Int) : soFar C n zs rs 0 = List.replicate n 0 := by simp [soFar, pickL]
theorem soFar_all {R C : Nat} {zs rs : List Int} (hn : zs.length = R * C) (ha : rs.all (inR R) = true) : soFar C (rs.length * C) zs rs rs.length = pickL C zs rs := by simp [soFar]
theorem soFar_next {R C n : Nat} {zs rs : List Int} {k q : Nat} (hl : zs.length = R * C) (hn : n = rs.length * C) (ha : (rs.take k).all (inR R) = true) (hk : k < rs.length) (hq : q < R) (hr : rs[k]? = some (q : Int)) :
    (soFar C n zs rs k).take (k * C) ++ rowL C zs q ++ (soFar C n zs rs k).drop (k * C + C) = soFar C n zs rs (k + 1) ∧ (soFar C n zs rs k).length = n := by
  have h1 : (pickL C zs (rs.take k)).length = k * C := by rw [pickL_len hl _ ha, List.length_take, Nat.min_eq_left (by omega)]
  have h2 := row_fit hn hk
  have h3 : n - (k + 1) * C = n - k * C - C := by rw [Nat.add_mul]; omega
  constructor
  · unfold soFar
    rw [List.take_append_of_le_length (by omega), List.take_of_length_le (by omega), List.drop_append, List.drop_of_length_le (by omega), h1, pickL_next C zs rs k q hr, h3]
    simp
  · unfold soFar
    rw [List.length_append, h1, List.length_replicate]
    omega

theorem ipost_ok {w w3 : World} {n C' gn : Nat} {R : Int} {zs rs : List Int} (hp : pick R (C' : Int) zs rs = ((rs.length : Int), (C' : Int), pickL (C' : Int).toNat zs rs, 0)) (hlen : (pickL C' zs rs).length = n) (ho : Own w3 gn (pickL C' zs rs)) (hg : w.heap.size + 1 < gn) (hb : Below w.heap.size w w3) (x0 x1 x2 x3 : Value) :
    IPost w (pick R (C' : Int) zs rs) (.returned (mout rs.length C' (some ⟨gn, 0, none⟩) n n 0)) ((((w3.setCell ⟨w.heap.size + 1, 0, none⟩ x0).setCell ⟨w.heap.size + 1, 1, none⟩ x1).setCell ⟨w.heap.size + 1, 2, none⟩ x2).setCell ⟨w.heap.size + 1, 3, none⟩ x3) := by
  rw [hp, Int.toNat_natCast]
  subst hlen
  refine ⟨some ⟨gn, 0, none⟩, _, rfl, .inr ⟨gn, rfl, ?_⟩, fun b o s e => by simp at e; omega, (((hb.setCell (by simp) _).setCell (by simp) _).setCell (by simp) _).setCell (by simp) _⟩
  exact (((ho.other _ _ (by simp; omega)).other _ _ (by simp; omega)).other _ _ (by simp; omega)).other _ _ (by simp; omega)

set_option maxRecDepth 100000 in
set_option maxHeartbeats 2000000 in
theorem impl_ok (R C : Nat) (b0 off0 : Nat) (b : Option Addr) (capb : Nat) (zs rs : List Int) (w : World) (hl : zs.length = R * C) (hR1 : 1 ≤ R) (hR : R ≤ 16) (hC1 : 1 ≤ C) (hC : C ≤ 16) (hr : Rd w (some ⟨b0, off0, none⟩) zs) (hrs : Rd w b rs)
    (h1 : 1 ≤ rs.length) (h2 : rs.length ≤ 16) (hrt : right (R : Int) (C : Int) zs = true) :
    Calls Try.prog 12 #[mat R C (some ⟨b0, off0, none⟩) zs.length zs.length, .slice b rs.length capb] w fun e w' => IPost w (pick R C zs rs) e w' := by
  have hlz : zs.length ≤ 256 := by
    have := Nat.mul_le_mul hR hC
    omega
  have hlz1 : 1 ≤ zs.length := by rw [hl]; exact Nat.mul_pos hR1 hC1
  have HR : Hid (∀ wx, Below w.heap.size w wx → Calls Try.prog 8 #[.agg #[.int .i64 R, .int .i64 C, .slice (some ⟨b0, off0, none⟩) zs.length zs.length]] wx fun e w' => e = .returned (.bool true) ∧ Below wx.heap.size wx w') :=
    mkHid (fun wx hb => by have k := right.impl_any R C _ zs.length zs wx (by omega) (hr.below hb); rw [hrt] at k; exact k)
  have HG : Hid (∀ wx, Below w.heap.size w wx → Calls Try.prog 24 #[.agg #[.int .i64 R, .int .i64 C, .slice (some ⟨b0, off0, none⟩) zs.length zs.length]] wx fun e w' => ∃ g c, e = .returned (.agg #[.int .i64 C, .slice (some ⟨g, 0, none⟩) zs.length c]) ∧ w'.ownsRow wx.heap.size 2 1 (.slice (some ⟨g, 0, none⟩) zs.length c) zs.length (zs.map intV) ∧ Below wx.heap.size wx w') :=
    mkHid (fun wx hb => gridOf_any R C b0 off0 zs.length zs wx hlz1 (by omega) (hr.below hb))
  obtain ⟨n, hn⟩ : ∃ n, n = rs.length * C := ⟨_, rfl⟩
  have HN : Hid (∀ wx, Calls Try.prog 25 #[.int .i64 rs.length, .int .i64 C] wx fun e w' => ∃ gn, e = .returned (.agg #[.int .i64 C, .slice (some ⟨gn, 0, none⟩) n n]) ∧ Own w' gn (List.replicate n 0) ∧ wx.heap.size ≤ gn ∧ Below wx.heap.size wx w') :=
    mkHid (fun wx => (newGrid_any rs.length C n wx h2 hC hn).mono (by rintro e w' ⟨rfl, ho, hb⟩; exact ⟨wx.heap.size + 1, rfl, ho, by omega, hb⟩))
  have hside : sideB (rs.length : Int) = true := by simp [sideB]; omega
  have hi2 : (rs.length : Int) ≤ 400 := by omega
  have HL := mkHid (And.intro hl (And.intro hr (And.intro hrs (And.intro hrt hn))))
  clear hl hrt hr hrs hn
  unfold mat
  go_enter Try.func12, Try.ntmps12
  go_wp2_with fail
  refine (HR.out _ (below_alloc2 w _ _)).mono ?_
  rintro e w1 ⟨rfl, hb1⟩
  have k0 := blk_below (blk_old (blk_new w (.cells #[.int .i64 R, .int .i64 C, .slice (some ⟨b0, off0, none⟩) zs.length zs.length] 27) w.heap.size rfl) zeroOut) hb1
  have k1 := blk_below (blk_new (w.alloc (.cells #[.int .i64 R, .int .i64 C, .slice (some ⟨b0, off0, none⟩) zs.length zs.length] 27)) zeroOut (w.heap.size + 1) (by simp)) hb1
  have B := below_allocs (os := [_, _]) hb1
  have c0 : w1.cell? ⟨w.heap.size, 0, none⟩ = some (.int .i64 R) := cell_of_block k0 0
  have c1 : w1.cell? ⟨w.heap.size, 1, none⟩ = some (.int .i64 C) := cell_of_block k0 1
  have c2 : w1.cell? ⟨w.heap.size, 2, none⟩ = some (.slice (some ⟨b0, off0, none⟩) zs.length zs.length) := cell_of_block k0 2
  have hD : w.heap.size + 1 < w1.heap.size := (Array.getElem?_eq_some_iff.1 k1).1
  have K := mkHid (And.intro B (And.intro k0 k1))
  clear hb1 k0 k1 B HR
  go_wp2_with fail
  refine (isSide_any _ _).mono ?_
  rintro e w2 ⟨rfl, rfl⟩
  rw [hside]
  go_wp2_with fail
  go_cut [6, 7] (fun s6 s7 wx => ∃ p6 p7 gf cf gn, s6 = .pointer (some ⟨p6, 0, none⟩) ∧ s7 = .pointer (some ⟨p7, 0, none⟩) ∧ Hid (Gs w (.cells #[.int .i64 R, .int .i64 C, .slice (some ⟨b0, off0, none⟩) zs.length zs.length] 27) C n zs (List.replicate n 0) p6 p7 gf cf gn wx))
  case first =>
    go_region_held3 (fun w' => w'.cell? ⟨w.heap.size, 0, none⟩ = some (.int .i64 R) ∧ w'.cell? ⟨w.heap.size, 1, none⟩ = some (.int .i64 C) ∧ w'.cell? ⟨w.heap.size, 2, none⟩ = some (.slice (some ⟨b0, off0, none⟩) zs.length zs.length)) (first | go_keep | (refine box_cells ?_; repeat (with_reducible first | exact NN.out.1 | exact GG.out.1 | exact K.out.2.1 | refine blk_old ?_ _ | refine blk_set ?_ _ _ ?_ | (simp <;> omega))))
      ((first | (go_at_call 24; refine (HG.out _ (by repeat (first | exact K.out.1 | refine Below.alloc ?_ (by first | omega | (simp; omega) | simp) _ | apply Below.drew))).mono ?_; rintro e wG ⟨gf, cf, rfl, hoG, hbG⟩; obtain ⟨cur, bF, hcur, hgf, hcf⟩ := owns_block (n := 0) hoG; have hgfG : gf < wG.heap.size := (Array.getElem?_eq_some_iff.1 bF).1; have bG : Below w2.heap.size w2 wG := below_from (by repeat (first | exact Below.refl _ _ | refine Below.alloc ?_ (by simp) _ | apply Below.drew)) hbG; have hsG := hbG.size; have LG := mkHid (K.out.1.trans (bG.mono K.out.1.size)); have g0 := blk_below K.out.2.1 bG; have g1 := blk_below K.out.2.2 bG; have cG0 : wG.cell? ⟨w.heap.size, 0, none⟩ = some (.int .i64 R) := cell_of_block g0 0; have cG1 : wG.cell? ⟨w.heap.size, 1, none⟩ = some (.int .i64 C) := cell_of_block g0 1; have cG2 : wG.cell? ⟨w.heap.size, 2, none⟩ = some (.slice (some ⟨b0, off0, none⟩) zs.length zs.length) := cell_of_block g0 2; (try have yG0 := blk_below (blk_new w2.drew zeroGrid w2.heap.size rfl) hbG); (try have yG0 := blk_below (blk_old (blk_new w2.drew zeroGrid w2.heap.size rfl) zeroGrid) hbG); (try have yG1 := blk_below (blk_new (w2.drew.alloc zeroGrid) zeroGrid (w2.heap.size + 1) (by simp)) hbG); have GG := mkHid (And.intro g0 (And.intro g1 (And.intro bF (And.intro hcur hcf)))); (try simp at hgf); (try simp at hsG); clear g0 g1 bF hcur hcf bG hoG hbG) | (go_at_call 25; refine (HN.out _).mono ?_; rintro e wN ⟨gn, rfl, hoN, hgn, hbN⟩; have hgnN : gn < wN.heap.size := hoN.lt; have bN : Below wG.heap.size wG wN := below_from (by repeat (first | exact Below.refl _ _ | refine Below.alloc ?_ (by simp) _ | apply Below.drew)) hbN; have hsN := hbN.size; have LN := mkHid (LG.out.trans (bN.mono LG.out.size)); have n0 := blk_below GG.out.1 bN; have n1 := blk_below GG.out.2.1 bN; have nF := blk_below GG.out.2.2.1 bN; have cN0 : wN.cell? ⟨w.heap.size, 0, none⟩ = some (.int .i64 R) := cell_of_block n0 0; have cN1 : wN.cell? ⟨w.heap.size, 1, none⟩ = some (.int .i64 C) := cell_of_block n0 1; have cN2 : wN.cell? ⟨w.heap.size, 2, none⟩ = some (.slice (some ⟨b0, off0, none⟩) zs.length zs.length) := cell_of_block n0 2; (try have yN0 := blk_below yG0 bN); (try have yN1 := blk_below yG1 bN); (try have xN0 := blk_below (blk_new wG zeroGrid wG.heap.size rfl) hbN); (try have xN0 := blk_below (blk_old (blk_new wG zeroGrid wG.heap.size rfl) zeroGrid) hbN); (try have xN1 := blk_below (blk_new (wG.alloc zeroGrid) zeroGrid (wG.heap.size + 1) (by simp)) hbN); (try have q0 : wN.cell? ⟨w2.heap.size, 0, none⟩ = some (.int .i64 0) := cell_of_block yN0 0); (try have q1 : wN.cell? ⟨w2.heap.size, 1, none⟩ = some (.slice none 0 0) := cell_of_block yN0 1); (try have q2 : ∀ j, wN.frozen? ⟨w2.heap.size, j, none⟩ = false := unfrozen_of_block yN0); (try have q3 : wN.cell? ⟨w2.heap.size + 1, 0, none⟩ = some (.int .i64 0) := cell_of_block yN1 0); (try have q4 : wN.cell? ⟨w2.heap.size + 1, 1, none⟩ = some (.slice none 0 0) := cell_of_block yN1 1); (try have q5 : ∀ j, wN.frozen? ⟨w2.heap.size + 1, j, none⟩ = false := unfrozen_of_block yN1); (try have r0 : wN.cell? ⟨wG.heap.size, 0, none⟩ = some (.int .i64 0) := cell_of_block xN0 0); (try have r1 : wN.cell? ⟨wG.heap.size, 1, none⟩ = some (.slice none 0 0) := cell_of_block xN0 1); (try have r2 : ∀ j, wN.frozen? ⟨wG.heap.size, j, none⟩ = false := unfrozen_of_block xN0); (try have r3 : wN.cell? ⟨wG.heap.size + 1, 0, none⟩ = some (.int .i64 0) := cell_of_block xN1 0); (try have r4 : wN.cell? ⟨wG.heap.size + 1, 1, none⟩ = some (.slice none 0 0) := cell_of_block xN1 1); (try have r5 : ∀ j, wN.frozen? ⟨wG.heap.size + 1, j, none⟩ = false := unfrozen_of_block xN1); have NN := mkHid (And.intro n0 (And.intro n1 (And.intro nF hoN))); (try simp at hgn); (try simp at hsN); have hlt1 : wG.heap.size < wN.heap.size := (by omega); have hlt2 : w2.heap.size < wN.heap.size := (by omega); (try have hlt3 : w2.heap.size + 1 < wN.heap.size := (by omega)); (try have hlt4 : wG.heap.size + 1 < wN.heap.size := (by omega)); have hnq1 : ¬ (wG.heap.size = wN.heap.size) := (by omega); have hnq2 : ¬ (w2.heap.size = wN.heap.size) := (by omega); have hnq3 : ¬ (w2.heap.size = wG.heap.size) := (by omega); (try clear yG0); (try clear yG1); (try clear yN0); (try clear yN1); (try clear xN0); (try clear xN1); clear n0 n1 nF hoN bN hbN)))
    all_goals
      go_wp2
      go_meet
      refine ⟨_, _, gf, cf, gn, rfl, rfl, mkHid ⟨?_, ?_, ?_, ?_, ?_, ?_, ?_, rd_begins ?_ GG.out.2.2.2.1, GG.out.2.2.2.2, ?_, ?_, ?_, ?_, ?_⟩⟩
      · repeat (with_reducible first | exact LN.out | refine Below.setCell ?_ ?_ _ | refine Below.alloc ?_ ?_ _ | omega | (simp <;> omega))
      · repeat (with_reducible first | exact NN.out.1 | refine blk_old ?_ _ | refine blk_set ?_ _ _ ?_ | (simp <;> omega))
      · repeat (with_reducible first | exact NN.out.2.1 | refine blk_old ?_ _ | refine blk_set ?_ _ _ ?_ | (simp <;> omega))
      · repeat (first | with_reducible assumption | with_reducible refine cs_same (u := .int .i64 0) ?_ | (with_reducible refine cs_off ?_ ?_; · omega) | (with_reducible refine cs_far ?_ ?_; · omega) | (with_reducible refine ca_new ?_ rfl; first | omega | (simp; done) | (simp; omega)) | with_reducible refine ca_old _ ?_)
      · repeat (first | with_reducible assumption | with_reducible refine cs_same (u := .slice none 0 0) ?_ | (with_reducible refine cs_off ?_ ?_; · omega) | (with_reducible refine cs_far ?_ ?_; · omega) | (with_reducible refine ca_new ?_ rfl; first | omega | (simp; done) | (simp; omega)) | with_reducible refine ca_old _ ?_)
      · repeat (first | with_reducible assumption | with_reducible refine cs_same (u := .int .i64 0) ?_ | (with_reducible refine cs_off ?_ ?_; · omega) | (with_reducible refine cs_far ?_ ?_; · omega) | (with_reducible refine ca_new ?_ rfl; first | omega | (simp; done) | (simp; omega)) | with_reducible refine ca_old _ ?_)
      · repeat (first | with_reducible assumption | with_reducible refine cs_same (u := .slice none 0 0) ?_ | (with_reducible refine cs_off ?_ ?_; · omega) | (with_reducible refine cs_far ?_ ?_; · omega) | (with_reducible refine ca_new ?_ rfl; first | omega | (simp; done) | (simp; omega)) | with_reducible refine ca_old _ ?_)
      · repeat (with_reducible first | exact NN.out.2.2.1 | refine blk_old ?_ _ | refine blk_set ?_ _ _ ?_ | (simp <;> omega))
      · have oN := NN.out.2.2.2
        unfold Own at oN ⊢
        repeat (with_reducible first | exact oN | refine blk_old ?_ _ | refine blk_set ?_ _ _ ?_ | (simp <;> omega))
      · omega
      · omega
      · omega
      · omega
  case rest =>
    obtain ⟨p6, p7, gf, cf, gn, rfl, rfl, hgs0⟩ := hcut
    have HB : Hid (∀ k q, k < rs.length → q < R → k * C + C ≤ n ∧ q * C + C ≤ cf) := mkHid (fun k q hk hq => ⟨row_fit HL.out.2.2.2.2 hk, Nat.le_trans (row_fit HL.out.1 hq) hgs0.out.room⟩)
    go_wp2
    go_loopw [33] (fun i wr => ∃ k : Nat, k ≤ rs.length ∧ i = .int .i64 k ∧ Hid ((rs.take k).all (inR R) = true) ∧ Hid (Gs w (.cells #[.int .i64 R, .int .i64 C, .slice (some ⟨b0, off0, none⟩) zs.length zs.length] 27) C n zs (soFar C n zs rs k) p6 p7 gf cf gn wr))
      (fun i _ => rs.length - (intOf i).toNat)
    case atStart => exact ⟨0, Nat.zero_le _, rfl, mkHid (by simp), mkHid (by rw [soFar_zero]; exact hgs0.out)⟩
    case round =>
      obtain ⟨k, hk, rfl, hall, hgs⟩ := hrel
      have x0 : wr.cell? ⟨w.heap.size, 0, none⟩ = some (.int .i64 R) := cell_of_block hgs.out.bx 0
      have x1 : wr.cell? ⟨p6, 0, none⟩ = some (.int .i64 C) := hgs.out.s0
      have x2 : wr.cell? ⟨p6, 1, none⟩ = some (.slice (some ⟨gf, 0, none⟩) zs.length cf) := hgs.out.s1
      have x3 : wr.cell? ⟨p7, 0, none⟩ = some (.int .i64 C) := hgs.out.d0
      have x4 : wr.cell? ⟨p7, 1, none⟩ = some (.slice (some ⟨gn, 0, none⟩) n n) := hgs.out.d1
      by_cases hlt : k < rs.length
      · obtain ⟨r, hrk⟩ : ∃ r, rs[k]? = some r := ⟨_, List.getElem?_eq_getElem hlt⟩
        obtain ⟨b1, off1, rfl, hc⟩ := HL.out.2.2.1 k r hrk
        have hcell : wr.cell? ⟨b1, off1 + k, none⟩ = some (.int .i64 r) := (hgs.out.below.cell (p := ⟨b1, off1 + k, none⟩) (World.block_lt_of_cell? w _ hc)).trans hc
        have hlti : (k : Int) < (rs.length : Int) := by omega
        cases hin : inR R r
        · have HP := mkHid (pick_not (R := R) (C := C) (zs := zs) (rs := rs) (by omega) (ok_cond HL.out.2.2.2.1 h1 h2) (all_not hrk hin))
          have h3 : r < 0 ∨ (0 ≤ r ∧ (R : Int) ≤ r) := by simp [inR] at hin; omega
          have k1 := hgs.out.res
          have c0 : wr.cell? ⟨w.heap.size + 1, 0, none⟩ = some (.int .i64 0) := cell_of_block k1 0
          have c1 : wr.cell? ⟨w.heap.size + 1, 1, none⟩ = some (.int .i64 0) := cell_of_block k1 1
          have c2 : wr.cell? ⟨w.heap.size + 1, 2, none⟩ = some (.slice none 0 0) := cell_of_block k1 2
          have c3 : wr.cell? ⟨w.heap.size + 1, 3, none⟩ = some (.int .i64 0) := cell_of_block k1 3
          have f1 : ∀ j, wr.frozen? ⟨w.heap.size + 1, j, none⟩ = false := unfrozen_of_block k1
          have B2 := mkHid hgs.out.below
          clear hc hrk hin hall k1 hgs x1 x2 x3 x4 HG HN
          rcases h3 with h3 | ⟨h3, h4⟩
          all_goals
            go_wp2
            exact bodyPost_ret (v := mout 0 0 none 0 0 1) (by simp [results, Try.results12, go_sem, c0, c1, c2, c3, mout]) rfl
              (ipost_ill HP.out ((((B2.out.setCell (by simp) _).setCell (by simp) _).setCell (by simp) _).setCell (by simp) _))
        · have hin' : 0 ≤ r ∧ r < (R : Int) := by simpa [inR] using hin
          obtain ⟨q, rfl⟩ := Int.eq_ofNat_of_zero_le hin'.1
          have N1 := mkHid (all_next hrk hall.out hin)
          have hqR : q < R := by omega
          obtain ⟨fit1, fit2⟩ := HB.out k q hlt hqR
          have HS := mkHid (soFar_next HL.out.1 HL.out.2.2.2.2 hall.out hlt hqR hrk)
          have hrl := rowL_len HL.out.1 hqR
          have HC : Hid (∀ wx, Rd wx (some ⟨gf, 0, none⟩) zs → ∀ j z, (rowL C zs (q : Int))[j]? = some z → wx.cell? ⟨gf, q * C + j, none⟩ = some (.int .i64 z)) := mkHid (fun wx hx j z hz => by
            obtain ⟨b', off', e, hc'⟩ := hx _ z (rowL_at hz)
            simp at e
            obtain ⟨rfl, rfl⟩ := e
            simpa using hc')
          have HRw : Hid (∀ wx g len cap (i : Nat), (i * C + C ≤ cap ∧ i ≤ 16) → Calls Try.prog 26 #[.agg #[.int .i64 C, .slice (some ⟨g, 0, none⟩) len cap], .int .i64 i] wx fun e w' => e = .returned (.slice (some ⟨g, i * C, none⟩) C (cap - i * C)) ∧ Below wx.heap.size wx w') := mkHid (fun wx g len cap i hi => by
            have h := row_any g 0 len cap C i (i * C) wx rfl hC1 hi.1 hC hi.2
            rw [Nat.zero_add] at h
            exact h)
          have F1 := mkHid (show k * C + C ≤ n ∧ k ≤ 16 from ⟨fit1, by omega⟩)
          have F2 := mkHid (show q * C + C ≤ cf ∧ q ≤ 16 from ⟨fit2, by omega⟩)
          have hd1 : decide ((q : Int) < 0) = false := decide_eq_false (by omega)
          have hd2 : decide ((R : Int) ≤ (q : Int)) = false := decide_eq_false (by omega)
          have hne6 := hgs.out.ne6
          have hne7 := hgs.out.ne7
          clear fit1 fit2 hin hin' hc hrk hall HG HN
          go_wp2_with fail
          go_region_held3 (fun w' => w'.cell? ⟨p6, 0, none⟩ = some (.int .i64 C) ∧ w'.cell? ⟨p6, 1, none⟩ = some (.slice (some ⟨gf, 0, none⟩) zs.length cf) ∧ w'.cell? ⟨p7, 0, none⟩ = some (.int .i64 C) ∧ w'.cell? ⟨p7, 1, none⟩ = some (.slice (some ⟨gn, 0, none⟩) n n)) (go_keep)
            ((first | (go_at_call 26; have t4 := B3; refine Calls.mono (HRw.out _ _ _ _ _ F2.out) ?_; rintro e w4 ⟨rfl, hb4⟩; have b4 : Below wr.heap.size wr w4 := below_from B3.out hb4; have z1 := (b4.cell (p := ⟨p6, 0, none⟩) (World.block_lt_of_cell? wr _ x1)).trans x1; have z2 := (b4.cell (p := ⟨p6, 1, none⟩) (World.block_lt_of_cell? wr _ x2)).trans x2; have z3 := (b4.cell (p := ⟨p7, 0, none⟩) (World.block_lt_of_cell? wr _ x3)).trans x3; have z4 := (b4.cell (p := ⟨p7, 1, none⟩) (World.block_lt_of_cell? wr _ x4)).trans x4; obtain ⟨w5, hrun, ho5, hg5⟩ := copy_run w4 gn (k * C) (q * C) C (n - k * C) (cf - q * C) gf _ _ (Own.below hgs.out.own b4) hrl (by rw [HS.out.2]; exact F1.out.1) (HC.out w4 (Rd.below hgs.out.rd b4)); rw [HS.out.1] at ho5; have L5 := mkHid (hgs.out.step b4 hg5 ho5); have v1 := hg5.cell z1 (by simpa using Ne.symm hne6); have v2 := hg5.cell z2 (by simpa using Ne.symm hne6); have v3 := hg5.cell z3 (by simpa using Ne.symm hne7); have v4 := hg5.cell z4 (by simpa using Ne.symm hne7); clear b4 hb4 ho5 hg5 t4) | (go_at_call 26; refine Calls.mono (HRw.out _ _ _ _ _ F1.out) ?_; rintro e w3 ⟨rfl, hb3⟩; have b3 : Below wr.heap.size wr w3 := ⟨hb3.os, hb3.tape, hb3.output, hb3.size, hb3.block⟩; have y1 := (b3.cell (p := ⟨p6, 0, none⟩) (World.block_lt_of_cell? wr _ x1)).trans x1; have y2 := (b3.cell (p := ⟨p6, 1, none⟩) (World.block_lt_of_cell? wr _ x2)).trans x2; have y3 := (b3.cell (p := ⟨p7, 0, none⟩) (World.block_lt_of_cell? wr _ x3)).trans x3; have y4 := (b3.cell (p := ⟨p7, 1, none⟩) (World.block_lt_of_cell? wr _ x4)).trans x4; have B3 := mkHid b3; clear b3 hb3)))
          clear hrun v1 v2 v3 v4 z1 z2 z3 z4 y1 y2 y3 y4 x1 x2 x3 x4 hgs F1 F2 HRw HC
          go_wp2
          go_roundw
          case rel => exact ⟨k + 1, by omega, by go_num, N1, L5⟩
          case measure => simp [intOf]; omega
      · obtain rfl : k = rs.length := by omega
        have ha := hall.out
        have hg2 := hgs.out
        rw [List.take_of_length_le (Nat.le_refl _)] at ha
        have hn := HL.out.2.2.2.2
        have HP := mkHid (pick_ok (R := R) (C := C) (zs := zs) (rs := rs) (by omega) (ok_cond HL.out.2.2.2.1 h1 h2) ha)
        have hpl : (pickL C zs rs).length = n := by rw [pickL_len HL.out.1 _ ha, hn]
        have O2 := hgs.out.own
        rw [hn, soFar_all HL.out.1 ha] at O2
        have HM : Hid (∀ wx, Calls Try.prog 27 #[.agg #[.int .i64 C, .slice (some ⟨gn, 0, none⟩) n n]] wx fun e w' => e = .returned (.agg #[.int .i64 rs.length, .int .i64 C, .slice (some ⟨gn, 0, none⟩) n n]) ∧ Below wx.heap.size wx w') := mkHid (fun wx => matrixOf_any rs.length C n _ n wx h2 hC1 hC hn)
        have H2 := mkHid (And.intro O2 (And.intro hpl (And.intro hgs.out.below (And.intro hgs.out.res hgs.out.new))))
        clear hn hg2 ha hall hgs O2 hpl HG HN
        go_wp2_with fail
        refine (HM.out _).mono ?_
        rintro e w3 ⟨rfl, hb3⟩
        have k1 := blk_below H2.out.2.2.2.1 hb3
        have c0 : w3.cell? ⟨w.heap.size + 1, 0, none⟩ = some (.int .i64 0) := cell_of_block k1 0
        have c1 : w3.cell? ⟨w.heap.size + 1, 1, none⟩ = some (.int .i64 0) := cell_of_block k1 1
        have c2 : w3.cell? ⟨w.heap.size + 1, 2, none⟩ = some (.slice none 0 0) := cell_of_block k1 2
        have c3 : w3.cell? ⟨w.heap.size + 1, 3, none⟩ = some (.int .i64 0) := cell_of_block k1 3
        have f1 : ∀ j, w3.frozen? ⟨w.heap.size + 1, j, none⟩ = false := unfrozen_of_block k1
        have B3 := mkHid (And.intro (H2.out.1.below hb3) (H2.out.2.2.1.trans (hb3.mono H2.out.2.2.1.size)))
        clear k1 hb3 HM
        go_wp2
        exact bodyPost_ret (v := mout rs.length C (some ⟨gn, 0, none⟩) n n 0) (by simp [results, Try.results12, go_sem, c0, c1, c2, c3, mout]) rfl
          (ipost_ok HP.out H2.out.2.1 B3.out.1 H2.out.2.2.2.2 B3.out.2 _ _ _ _)

theorem impl_any (R C : Int) (a b : Option Addr) (capb : Nat) (zs rs : List Int) (w : World) (hl : zs.length ≤ 1048576) (hlr : rs.length ≤ 1048576) (hr : Rd w a zs) (hrs : Rd w b rs) :
    Calls Try.prog 12 #[mat R C a zs.length zs.length, .slice b rs.length capb] w fun e w' => IPost w (pick R C zs rs) e w' := by
  by_cases h1 : 400 < rs.length
  · exact impl_big R C a b zs.length capb zs rs w hl hlr h1
  by_cases h2 : right R C zs = false ∨ rs.length < 1 ∨ 16 < rs.length
  · exact impl_ill R C a b zs.length capb zs rs w hl hr h1 h2
  have h3 : right R C zs = true := by
    cases hx : right R C zs
    · exact absurd (.inl hx) h2
    · rfl
  obtain ⟨r, c, rfl, rfl, k1, k2, k3, k4, k5⟩ := right_nat h3
  obtain ⟨z, hz⟩ : ∃ z, zs[0]? = some z := ⟨_, List.getElem?_eq_getElem (by rw [k5]; exact Nat.mul_pos k1 k3)⟩
  obtain ⟨b0, off0, rfl, _⟩ := hr 0 z hz
  exact impl_ok r c b0 off0 b capb zs rs w k5 k1 k2 k3 k4 hr hrs (by omega) (by omega) h3

end Go.Proofs.Ytoklibbefjnlhab.picki
