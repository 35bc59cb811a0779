/-
  What slices.Clone (of int64) and impl.copyHash answer and leave. Conditions: at most 1,048,576 numbers, which lie in memory; at most 1,048,576 bytes.
-/
import Derived.Test.YtaepdmeghfbngaaDoorHImplB
import Derived.Test.YtaepdmeghfbngaaDoorClone
import Derived.Lib.SliceRun
import Derived.Deep.RegionWith
import Derived.Deep.RegionHeld3
namespace Go.Proofs.YtaepdmeghfbngaaDoor.himpl
open Go.RowKit Go.Joins
open Go.Proofs.YtaepdmeghfbngaaDoor.base Go.Proofs.YtaepdmeghfbngaaDoor.ints Go.Proofs.YtaepdmeghfbngaaDoor.blk
set_option linter.unusedVariables false

theorem one_ints (zs : List Int) : ∀ u ∈ zs.map intV, u.oneCell' = true := by
  intro u hu
  obtain ⟨z, _, rfl⟩ := List.mem_map.1 hu
  rfl
theorem own_empty (w : World) : (w.alloc (.cells #[] 2)).ownsRow w.heap.size 2 1 (.slice (some ⟨w.heap.size, 0, none⟩) 0 0) 0 [] :=
  ⟨rfl, .inr ⟨w.heap.size, 0, #[], rfl, Nat.le_refl _, heap_alloc_new w _, Nat.le_refl _, Nat.zero_le _, rfl, rfl⟩⟩

set_option maxRecDepth 100000 in
theorem cloneI_any (b off cap : Nat) (zs : List Int) (w : World) (hl : zs.length ≤ 1048576) (hr : Rd w (some ⟨b, off, none⟩) zs) :
    Calls Tryd.prog 28 #[.slice (some ⟨b, off, none⟩) zs.length cap] w fun e w' => ∃ g c, e = .returned (.slice (some ⟨g, 0, none⟩) zs.length c) ∧ OwnS w' g zs ∧ w.heap.size ≤ g ∧ Below w.heap.size w w' := by
  obtain ⟨i0, hi, hz0, hz1, hz2⟩ := info_parts info2
  have hnil := Lib.run_eql_slice_nil (P := Tryd.prog) w 26 2 (some ⟨b, off, none⟩) zs.length cap 0 0 Tryd.underlying26
  go_enter Tryd.func28, Tryd.ntmps28
  go_wp2_with ((at_builtin; refine wpList_append_own _ rfl _ _ 26 rfl w.heap.size 2 i0 (.int .i64 0) 1 8 Tryd.underlying26 hi hz0 hz1 hz2 rfl (by decide) _ 0 [] rfl (own_empty w) ⟨b, off, none⟩ zs.length cap (zs.map intV) rfl (by simp) ?c2 (one_ints zs) (by unfold maxLen; omega) (by omega) (by simp) ?_))
  case c2 =>
    intro j u hj
    rw [List.getElem?_map] at hj
    cases hz : zs[j]? with
    | none => rw [hz] at hj; simp at hj
    | some z =>
      rw [hz] at hj
      simp at hj
      subst hj
      obtain ⟨b', off', e, hc⟩ := (hr.alloc (.cells #[] 2)) j z hz
      simp at e
      obtain ⟨rfl, rfl⟩ := e
      rw [Addr.add_lit]
      exact hc
  intro v' w1 hown hgrow hn
  have B : Below w.heap.size w w1 := ((Below.refl _ _).alloc (Nat.le_refl _) _).grown hgrow (by simp) (fun k hk => by simp [Value.ownBlock] at hk; omega)
  obtain ⟨g, c, rfl, hg⟩ : ∃ g c, v' = .slice (some ⟨g, 0, none⟩) zs.length c ∧ w.heap.size ≤ g := by
    have h2 := hown
    obtain ⟨_, h2⟩ := h2
    rcases h2 with ⟨rfl, h0⟩ | ⟨g, c, cur, rfl, hbg, _⟩
    · simp at hn
    · exact ⟨g, c, by simp, hbg⟩
  have O : OwnS w1 g zs := OwnS.owns (base := w.heap.size) (n := zs.length) (c := c) (by simpa using hown)
  have H := mkHid (And.intro O (And.intro hg B))
  clear hown B hgrow hr hnil hn hg O
  go_wp2
  go_ret
  exact ⟨g, c, rfl, H.out.1, H.out.2.1, H.out.2.2⟩

/-- the boxed Hash, and the answer's variable, still empty -/
structure Cp (w : World) (box : Obj) (wr : World) : Prop where
  below : Below w.heap.size w wr
  bx : wr.heap[w.heap.size]? = some box
  res : wr.heap[w.heap.size + 1]? = some sha.zeroH
theorem Cp.next {w wr w' : World} {box : Obj} (h : Cp w box wr) (hb : Below wr.heap.size wr w') : Cp w box w' := ⟨h.below.trans (hb.mono h.below.size), blk_below h.bx hb, blk_below h.res hb⟩
theorem re {w w' w1 : World} (h : Below w'.heap.size w' w1) (h1 : w'.os = w.os) (h2 : w'.tape = w.tape) (h3 : w'.output = w.output) (h4 : w'.heap = w.heap) : Below w.heap.size w w1 :=
  ⟨h.os.trans h1, h.tape.trans h2, h.output.trans h3, by rw [← h4]; exact h.size, fun k hk => by rw [← h4] at hk ⊢; exact h.block k hk⟩
/-- what is told when the answer's variable is filled -/
theorem ipost_set {w W : World} {o : List Int × ByteArray × Int} {g c n : Nat} {zs : List Int} {r : ByteArray} {sz : Int} (ho : o = (zs, r, sz)) (hn : zs.length = n) (hr : OwnS W g zs) (hge : w.heap.size + 1 < g) (hb : Below w.heap.size w W) (x0 x1 x2 : Value) :
    IPost w o (.returned (sha.hash (some ⟨g, 0, none⟩) n c r sz)) (((W.setCell ⟨w.heap.size + 1, 0, none⟩ x0).setCell ⟨w.heap.size + 1, 1, none⟩ x1).setCell ⟨w.heap.size + 1, 2, none⟩ x2) := by
  subst ho hn
  refine ⟨some ⟨g, 0, none⟩, c, rfl, .inr ⟨g, rfl, ((hr.other _ _ (by simp; omega)).other _ _ (by simp; omega)).other _ _ (by simp; omega)⟩, fun b o s e => by simp at e; omega, ((hb.setCell (by simp) _).setCell (by simp) _).setCell (by simp) _⟩

set_option maxRecDepth 100000 in
set_option maxHeartbeats 1000000 in
theorem copy_any (b0 off cap : Nat) (zs : List Int) (r : ByteArray) (size : Int) (w : World) (hl : zs.length ≤ 1048576) (hr : Rd w (some ⟨b0, off, none⟩) zs) (hrs : r.size ≤ 1048576) :
    Calls Tryd.prog 23 #[sha.hash (some ⟨b0, off, none⟩) zs.length cap r size] w fun e w' => IPost w (zs, r, size) e w' := by
  have HC : Hid (∀ wx, Below w.heap.size w wx → w.heap.size + 1 < wx.heap.size → Calls Tryd.prog 28 #[.slice (some ⟨b0, off, none⟩) zs.length cap] wx fun e w' => ∃ g c, e = .returned (.slice (some ⟨g, 0, none⟩) zs.length c) ∧ OwnS w' g zs ∧ w.heap.size + 1 < g ∧ Below wx.heap.size wx w') :=
    mkHid (fun wx hb hlt => (cloneI_any b0 off cap zs wx hl (hr.below hb)).mono (by rintro e w' ⟨g, c, rfl, h1, h2, h3⟩; exact ⟨g, c, rfl, h1, by omega, h3⟩))
  have HS : Hid (∀ wx, Calls Tryd.prog 24 #[.string r] wx fun e w' => e = .returned (.string r) ∧ Below wx.heap.size wx w') := mkHid (fun wx => clone.clone_any r wx hrs)
  clear hr
  unfold sha.hash
  go_enter Tryd.func23, Tryd.ntmps23
  go_wp2
  have S0 : Hid (Cp w (.cells #[.slice (some ⟨b0, off, none⟩) zs.length cap, .string r, .int .i64 size] 28) ((w.alloc (.cells #[.slice (some ⟨b0, off, none⟩) zs.length cap, .string r, .int .i64 size] 28)).alloc (.cells #[.slice none 0 0, .string ⟨#[]⟩, .int .i64 0] 28))) :=
    mkHid ⟨below_alloc2 w _ _, blk_old (blk_new w _ _ rfl) _, blk_new _ _ _ (by simp)⟩
  generalize (w.alloc (.cells #[.slice (some ⟨b0, off, none⟩) zs.length cap, .string r, .int .i64 size] 28)).alloc (.cells #[.slice none 0 0, .string ⟨#[]⟩, .int .i64 0] 28) = W at *
  have c0 : W.cell? ⟨w.heap.size, 0, none⟩ = some (.slice (some ⟨b0, off, none⟩) zs.length cap) := cell_of_block S0.out.bx 0
  have c1 : W.cell? ⟨w.heap.size, 1, none⟩ = some (.string r) := cell_of_block S0.out.bx 1
  have c2 : W.cell? ⟨w.heap.size, 2, none⟩ = some (.int .i64 size) := cell_of_block S0.out.bx 2
  have hWl : w.heap.size + 1 < W.heap.size := (Array.getElem?_eq_some_iff.1 S0.out.res).1
  go_region_held3 (fun w' => w'.cell? ⟨w.heap.size, 0, none⟩ = some (.slice (some ⟨b0, off, none⟩) zs.length cap) ∧ w'.cell? ⟨w.heap.size, 1, none⟩ = some (.string r) ∧ w'.cell? ⟨w.heap.size, 2, none⟩ = some (.int .i64 size)) (go_keep)
    ((first
      | (go_at_call 28; refine Calls.mono (HC.out _ (by first | exact S0.out.below | exact S0.out.below.drew) (by exact hWl)) ?_; rintro e w1 ⟨g, c, rfl, hO1, hg1, hb1⟩; have S1 := mkHid (S0.out.next (re hb1 rfl rfl rfl rfl)); have OO1 := mkHid (And.intro hO1 hg1); have a0 : w1.cell? ⟨w.heap.size, 0, none⟩ = some (.slice (some ⟨b0, off, none⟩) zs.length cap) := cell_of_block S1.out.bx 0; have a1 : w1.cell? ⟨w.heap.size, 1, none⟩ = some (.string r) := cell_of_block S1.out.bx 1; have a2 : w1.cell? ⟨w.heap.size, 2, none⟩ = some (.int .i64 size) := cell_of_block S1.out.bx 2; clear hO1 hg1 hb1)
      | (go_at_call 24; refine Calls.mono (HS.out _) ?_; rintro e w2 ⟨rfl, hb2⟩; have S2 := mkHid (S1.out.next (re hb2 rfl rfl rfl rfl)); have OO2 := mkHid (And.intro (OO1.out.1.below (re hb2 rfl rfl rfl rfl)) OO1.out.2); have d0 : w2.cell? ⟨w.heap.size, 0, none⟩ = some (.slice (some ⟨b0, off, none⟩) zs.length cap) := cell_of_block S2.out.bx 0; have d1 : w2.cell? ⟨w.heap.size, 1, none⟩ = some (.string r) := cell_of_block S2.out.bx 1; have d2 : w2.cell? ⟨w.heap.size, 2, none⟩ = some (.int .i64 size) := cell_of_block S2.out.bx 2; have br0 : w2.cell? ⟨w.heap.size + 1, 0, none⟩ = some (.slice none 0 0) := cell_of_block S2.out.res 0; have br1 : w2.cell? ⟨w.heap.size + 1, 1, none⟩ = some (.string ⟨#[]⟩) := cell_of_block S2.out.res 1; have br2 : w2.cell? ⟨w.heap.size + 1, 2, none⟩ = some (.int .i64 0) := cell_of_block S2.out.res 2; have brf : ∀ j, w2.frozen? ⟨w.heap.size + 1, j, none⟩ = false := unfrozen_of_block S2.out.res; clear hb2)))
  go_wp2
  exact bodyPost_ret (v := sha.hash (some ⟨g, 0, none⟩) zs.length c r size) (by simp [results, Tryd.results23, go_sem, br0, br1, br2, sha.hash]) rfl (ipost_set rfl rfl OO2.out.1 OO2.out.2 S2.out.below _ _ _)
end Go.Proofs.YtaepdmeghfbngaaDoor.himpl
