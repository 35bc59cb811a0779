/-
  What laws.toDriveS and laws.toArray answer and leave. Conditions: at most 1,048,576 drives of at most 1,048,576 files each, which lie in memory.
-/
import Derived.Test.YtlcdbkelonbcfaaArP
namespace Go.Proofs.Ytlcdbkelonbcfaa.arr
open Go.RowKit Go.Joins
open Go.Proofs.Ytlcdbkelonbcfaa.base Go.Proofs.Ytlcdbkelonbcfaa.blk Go.Proofs.Ytlcdbkelonbcfaa.aid
open Go.Proofs.Ytlcdbkelonbcfaa.row (Rd Own OwnV)
open Go.Proofs.Ytlcdbkelonbcfaa.rwStored (cs)
open Go.Proofs.Ytlcdbkelonbcfaa.mem (Mem Mine Off)
set_option linter.unusedVariables false
set_option linter.unusedSimpArgs false

/-- a variable that is a row of cells is a row of our own -/
theorem varOwn {W wx : World} {z : Nat} {t : TypeId} {xs : List Value} {bs : List (Nat × Obj)} {rs : List (Option Addr × List Value)} {os : List Mine} (h : Mem W ((z, .cells xs.toArray t) :: bs) rs os wx) (hz : W.heap.size ≤ z) (hd : ∀ p ∈ bs, p.1 ≠ z) (hr : ∀ p ∈ rs, Off p.1 p.2 z) : Mem W bs rs (⟨t, some ⟨z, 0, none⟩, xs⟩ :: os) wx := by
  refine ⟨h.below, fun p hp => h.b p (.tail _ hp), h.r, ?_, ?_, ?_⟩
  · intro p hp
    rcases List.mem_cons.1 hp with rfl | hp
    · exact .inr ⟨z, rfl, [], by rw [List.append_nil]; exact h.b0⟩
    · exact h.o p hp
  · intro p hp hx g o s e
    rcases List.mem_cons.1 hp with rfl | hp
    · simp at e
      obtain ⟨rfl, rfl, rfl⟩ := e
      exact ⟨hz, hd, hr⟩
    · obtain ⟨n1, n2, n3⟩ := h.new p hp hx g o s e
      exact ⟨n1, fun q hq => n2 q (.tail _ hq), n3⟩
  · refine List.pairwise_cons.2 ⟨?_, h.apart⟩
    intro q hq hx g o s e
    simp at e
    obtain ⟨rfl, rfl, rfl⟩ := e
    by_cases hq0 : q.xs = []
    · exact .inl hq0
    · refine .inr (fun o2 s2 e2 => ?_)
      exact (h.new q hq hq0 _ o2 s2 e2).2.1 (z, .cells xs.toArray t) (.head _) rfl
theorem rdA_of {W wx : World} {bs : List (Nat × Obj)} {rs : List (Option Addr × List Value)} {os : List Mine} {a : Option Addr} {ds es : List Dv} (h : Mem W bs rs (⟨92, a, dcs ds⟩ :: (mines es ++ os)) wx) (he : ∀ d ∈ ds, d ∈ es) : RdA wx a ds :=
  ⟨h.o0.rd, fun d hd => (h.o ⟨94, d.1, cs d.2.2.1⟩ (.tail _ (List.mem_append_left _ (List.mem_map.2 ⟨d, he d hd, rfl⟩)))).rd⟩
/-- what toDriveS answers -/
def TPost (w : World) (ds : List Dv) (e : Ending) (w' : World) : Prop :=
  ∃ ds', e = .returned (.slice (some ⟨w.heap.size, 0, none⟩) ds.length ds.length) ∧ ds'.map val = ds.map val ∧ Mem w [] [] (⟨92, some ⟨w.heap.size, 0, none⟩, dcs ds'⟩ :: mines ds'.reverse) w'
theorem put_next (ds' : List Dv) (d : Dv) (n : Nat) (h : ds'.length < n) : (((dcs (ds' ++ List.replicate (n - ds'.length) zeroD)).toArray.setIfInBounds (ds'.length * 2) (.slice d.1 d.2.2.1.length d.2.1)).setIfInBounds (ds'.length * 2 + 1) (.int .i64 d.2.2.2)) = (dcs ((ds' ++ [d]) ++ List.replicate (n - (ds' ++ [d]).length) zeroD)).toArray := by
  simp only [List.setIfInBounds_toArray]
  rw [dcs_set _ _ _ (by simp; omega)]
  congr 2
  rw [List.set_append_right _ _ (Nat.le_refl _), Nat.sub_self]
  have e : n - ds'.length = (n - (ds' ++ [d]).length) + 1 := by simp; omega
  rw [e, List.replicate_succ, List.set_cons_zero]
  simp
theorem take_val {ds ds' : List Dv} {k : Nat} {d d' : Dv} (h : ds'.map val = (ds.take k).map val) (hx : ds[k]? = some d) (hd : val d' = val d) : (ds' ++ [d']).map val = (ds.take (k + 1)).map val := by
  rw [List.take_add_one, hx]
  simp [h, hd]
set_option maxRecDepth 100000 in
set_option maxHeartbeats 2000000 in
theorem toS_any (a : Option Addr) (c : Nat) (ds : List Dv) (w : World) (hs : ds.length ≤ 1048576) (hs2 : ∀ d ∈ ds, d.2.2.1.length ≤ 1048576) (hr : RdA w a ds) :
    Calls Try.prog 35 #[.slice a ds.length c] w (TPost w ds) := by
  have hmk := run_make_rows ds.length hs
  have M0 : Hid (Mem w [(w.heap.size, .cells (dcs ([] ++ List.replicate (ds.length - 0) zeroD)).toArray 92)] [] (mines ([] : List Dv).reverse) (w.alloc (.cells (dcs (List.replicate ds.length zeroD)).toArray 92))) := mkHid ((mem.start w).var _)
  go_enter Try.func35, Try.ntmps35
  go_wp2_with fail
  go_loopw [4] (fun i wr => ∃ (k : Nat) (ds' : List Dv), k ≤ ds.length ∧ i = .int .i64 k ∧ ds'.length = k ∧ Hid (ds'.map val = (ds.take k).map val) ∧ Hid (Mem w [(w.heap.size, .cells (dcs (ds' ++ List.replicate (ds.length - ds'.length) zeroD)).toArray 92)] [] (mines ds'.reverse) wr))
    (fun i _ => ds.length - (intOf i).toNat)
  case atStart => exact ⟨0, [], Nat.zero_le _, rfl, rfl, mkHid rfl, M0⟩
  case round =>
    clear M0
    obtain ⟨k, ds', hk, rfl, hkl, hv, hM⟩ := hrel
    by_cases hlt : k < ds.length
    · have hlti : (k : Int) < (ds.length : Int) := by omega
      obtain ⟨d, hx⟩ : ∃ y, ds[k]? = some y := ⟨_, List.getElem?_eq_getElem hlt⟩
      have hdm := List.mem_of_getElem? hx
      obtain ⟨da, dc, dl, dr⟩ := d
      obtain ⟨g1, o1, rfl, c0, c1, l1⟩ := el hr.top hx
      simp only at c0 c1
      have e0 := (hM.out.below.cell (p := ⟨g1, o1 + k * 2, none⟩) l1).trans c0
      have e1 := (hM.out.below.cell (p := ⟨g1, o1 + k * 2 + 1, none⟩) l1).trans c1
      have HT := mkHid (drv.to_any da dc dl dr wr (hs2 _ hdm) ((hr.each _ hdm).below hM.out.below))
      unfold drv.DPost at HT
      have HX := mkHid hx
      have HL : Hid (ds'.length < ds.length) := mkHid (by omega)
      clear c0 c1 hx hr hs2 hdm
      go_wp2_with fail
      refine HT.out.mono ?_
      rintro e w1 ⟨a2, c2, rfl, ho, hf, hb, hcap⟩
      have M1 := mkHid (hM.out.own hb ho hf)
      have hb0 := M1.out.b0
      have hfz := unfrozen_of_block hb0
      have M2 := (M1.out.wr (k * 2) (.slice a2 dl.length c2) (Nat.le_refl _) (by simp) (by simp)).wr (k * 2 + 1) (.int .i64 dr) (Nat.le_refl _) (by simp) (by simp)
      rw [← hkl, put_next ds' (a2, c2, dl, dr) ds.length HL.out, hkl] at M2
      have M3 : Hid (Mem w [(w.heap.size, .cells (dcs ((ds' ++ [(a2, c2, dl, dr)]) ++ List.replicate (ds.length - (ds' ++ [(a2, c2, dl, dr)]).length) zeroD)).toArray 92)] [] (mines (ds' ++ [(a2, c2, dl, dr)]).reverse) ((w1.setCell ⟨w.heap.size, k * 2, none⟩ (.slice a2 dl.length c2)).setCell ⟨w.heap.size, k * 2 + 1, none⟩ (.int .i64 dr))) := mkHid (by
        rw [List.reverse_append]
        exact M2)
      have hdsz : (dcs (ds' ++ List.replicate (ds.length - ds'.length) zeroD)).length = 2 * ds.length := by rw [dcs_len]; simp; omega
      have z0 : ∃ v, w1.cell? ⟨w.heap.size, k * 2, none⟩ = some v := by
        rw [cell_of_block hb0]
        exact ⟨_, by simp; exact List.getElem?_eq_getElem (by omega)⟩
      have z1 : ∃ v, w1.cell? ⟨w.heap.size, k * 2 + 1, none⟩ = some v := by
        rw [cell_of_block hb0]
        exact ⟨_, by simp; exact List.getElem?_eq_getElem (by omega)⟩
      obtain ⟨v0, z0⟩ := z0
      obtain ⟨v1, z1⟩ := z1
      have N1 : Hid ((ds' ++ [(a2, c2, dl, dr)]).map val = (ds.take (k + 1)).map val) := mkHid (take_val hv.out HX.out rfl)
      have hl2 : (ds' ++ [(a2, c2, dl, dr)]).length = k + 1 := by simp [hkl]
      clear hb ho hf hcap M1 M2 hM hb0 hdsz HX HL HT e0 e1 hv
      go_wp2
      exact ⟨⟨k + 1, ds' ++ [(a2, c2, dl, dr)], by omega, by go_num, hl2, N1, M3⟩, by simp [intOf]; omega⟩
    · obtain rfl : k = ds.length := by omega
      have R : Hid (TPost w ds (.returned (.slice (some ⟨w.heap.size, 0, none⟩) ds.length ds.length)) wr) := mkHid (by
        have h1 := hM.out
        rw [hkl, Nat.sub_self, List.replicate_zero, List.append_nil] at h1
        have h2 := hv.out
        rw [List.take_of_length_le (Nat.le_refl _)] at h2
        exact ⟨ds', rfl, h2, varOwn h1 (Nat.le_refl _) (by simp) (by simp)⟩)
      clear hM hv hr hs2
      go_wp2
      go_ret
      exact R.out
end Go.Proofs.Ytlcdbkelonbcfaa.arr
