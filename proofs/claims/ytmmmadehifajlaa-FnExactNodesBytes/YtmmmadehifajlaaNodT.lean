/-
  What laws.toStringS, toNode, toNodeS, eqNode and eqNodeS answer and leave. Conditions: at most 1,048,576 nodes of at most 1,048,576 keys each, which lie in memory.
-/
import Derived.Test.YtmmmadehifajlaaNodL
namespace Go.Proofs.Ytmmmadehifajlaa.nod
open Go.RowKit Go.Joins
open Go.Proofs.Ytmmmadehifajlaa.base Go.Proofs.Ytmmmadehifajlaa.blk Go.Proofs.Ytmmmadehifajlaa.aid
open Go.Proofs.Ytmmmadehifajlaa.row (Rd Own OwnV)
open Go.Proofs.Ytmmmadehifajlaa.strs (tx strV)
open Go.Proofs.Ytmmmadehifajlaa.mem (Mem Mine Off)
set_option linter.unusedVariables false
set_option linter.unusedSimpArgs false

/-- a row of keys of its own is the answer -/
def KPost (w : World) (l : Tx) (e : Ending) (w' : World) : Prop :=
  ∃ a c, e = .returned (.slice a l.length c) ∧ OwnV 9 w' a (tx l) ∧ (∀ b o s, a = some ⟨b, o, s⟩ → w.heap.size ≤ b) ∧ Below w.heap.size w w' ∧ l.length ≤ c
def partT (l : Tx) (k : Nat) : Tx := l.take k ++ List.replicate (l.length - k) ⟨#[]⟩
theorem partT_len (l : Tx) (k : Nat) (h : k ≤ l.length) : (partT l k).length = l.length := by simp [partT]; omega
theorem partT_next (l : Tx) (k : Nat) (b : ByteArray) (h : l[k]? = some b) : (tx (partT l k)).set k (.string b) = tx (partT l (k + 1)) := by
  have hlt := (List.getElem?_eq_some_iff.1 h).1
  have e0 : (partT l k).set k b = partT l (k + 1) := by
    unfold partT
    have e1 : (l.take k).length = k := by simp; omega
    rw [List.set_append_right _ _ (by omega), e1, Nat.sub_self, show l.length - k = (l.length - (k + 1)) + 1 by omega, List.replicate_succ, List.set_cons_zero, List.take_add_one, h]
    simp
  rw [← e0]
  unfold strs.tx
  rw [List.map_set]
  rfl
set_option maxRecDepth 100000 in
set_option maxHeartbeats 1000000 in
theorem toT_any (a : Option Addr) (c : Nat) (l : Tx) (w : World) (hl : l.length ≤ 1048576) (hr : Rd w a (tx l)) :
    Calls Try.prog 80 #[.slice a l.length c] w (KPost w l) := by
  have hmk := run_make_texts l.length hl
  go_enter Try.func80, Try.ntmps80
  go_wp2_with fail
  go_loopw [4] (fun i wr => ∃ k : Nat, k ≤ l.length ∧ i = .int .i64 k ∧ Hid (Own 9 wr w.heap.size (tx (partT l k)) ∧ Below w.heap.size w wr))
    (fun i _ => l.length - (intOf i).toNat)
  case atStart => exact ⟨0, Nat.zero_le _, rfl, mkHid ⟨⟨[], by rw [List.append_nil]; exact blk_new w _ _ rfl⟩, below_alloc1 _ _⟩⟩
  case round =>
    obtain ⟨k, hk, rfl, hO⟩ := hrel
    by_cases hlt : k < l.length
    · have hlti : (k : Int) < (l.length : Int) := by omega
      obtain ⟨t, hx⟩ : ∃ y, l[k]? = some y := ⟨_, List.getElem?_eq_getElem hlt⟩
      obtain ⟨g1, o1, rfl, c0, l1⟩ := tx_el hr hx
      have e0 := (hO.out.2.cell (p := ⟨g1, o1 + k, none⟩) l1).trans c0
      obtain ⟨y, hy⟩ : ∃ y, (partT l k)[k]? = some y := ⟨_, List.getElem?_eq_getElem (by rw [partT_len l k hk]; exact hlt)⟩
      have d0 := hO.out.1.cell (tx_at hy)
      have hf := hO.out.1.free
      have hlen : (tx (partT l k)).length = l.length := by rw [tx_len, partT_len l k hk]
      have N1 : Hid (Own 9 (wr.setCell ⟨w.heap.size, k, none⟩ (.string t)) w.heap.size (tx (partT l (k + 1))) ∧ Below w.heap.size w (wr.setCell ⟨w.heap.size, k, none⟩ (.string t))) := mkHid ⟨by
        have h := hO.out.1.set k (by omega) (.string t)
        rw [partT_next l k t hx] at h
        exact h, hO.out.2.setCell (by simp) _⟩
      have N2 : Hid (Own 9 (wr.drew.setCell ⟨w.heap.size, k, none⟩ (.string t)) w.heap.size (tx (partT l (k + 1))) ∧ Below w.heap.size w (wr.drew.setCell ⟨w.heap.size, k, none⟩ (.string t))) := mkHid ⟨by
        have h := (hO.out.1.block (w' := wr.drew) rfl).set k (by omega) (.string t)
        rw [partT_next l k t hx] at h
        exact h, hO.out.2.drew.setCell (by simp) _⟩
      clear c0 hx hr hO hy hlen
      go_wp2
      exact ⟨⟨k + 1, by omega, by go_num, by first | exact N1 | exact N2⟩, by simp [intOf]; omega⟩
    · obtain rfl : k = l.length := by omega
      have e : partT l l.length = l := by simp [partT]
      have R := hO.out
      rw [e] at R
      have R' := mkHid R
      clear R hO hr
      go_wp2
      go_ret
      exact ⟨_, _, rfl, .inr ⟨_, rfl, R'.out.1⟩, fun b o s e => by simp at e; omega, R'.out.2, Nat.le_refl _⟩
theorem own_off {T : TypeId} {w : World} {a : Option Addr} {xs : List Value} {p : Addr} {v : Value} (h : OwnV T w a xs) (hne : ∀ b o s, a = some ⟨b, o, s⟩ → b ≠ p.block) : OwnV T (w.setCell p v) a xs := by
  rcases h with h | ⟨g, rfl, ho⟩
  · exact .inl h
  · exact .inr ⟨g, rfl, ho.block (Below.heap_setCell _ _ _ _ (hne g 0 none rfl))⟩
/-- a node with keys of its own is the answer -/
def DPost (w : World) (x0 : ByteArray) (x1 : Bool) (x2 : Int) (l : Tx) (e : Ending) (w' : World) : Prop :=
  ∃ a c, e = .returned (.agg #[.string x0, .bool x1, .int .i64 x2, .slice a l.length c]) ∧ OwnV 9 w' a (tx l) ∧ (∀ b o s, a = some ⟨b, o, s⟩ → w.heap.size ≤ b) ∧ Below w.heap.size w w' ∧ l.length ≤ c
set_option maxRecDepth 100000 in
set_option maxHeartbeats 1000000 in
theorem to_any (x0 : ByteArray) (x1 : Bool) (x2 : Int) (a : Option Addr) (c : Nat) (l : Tx) (w : World) (hl : l.length ≤ 1048576) (hr : Rd w a (tx l)) :
    Calls Try.prog 53 #[.agg #[.string x0, .bool x1, .int .i64 x2, .slice a l.length c]] w (DPost w x0 x1 x2 l) := by
  have HT := mkHid (fun wx (hx : Rd wx a (tx l)) => toT_any a c l wx hl hx)
  unfold KPost at HT
  have HR := mkHid hr
  clear hr
  go_enter Try.func53, Try.ntmps53
  go_wp2_with fail
  have H3 := mkHid (((HR.out.alloc (.cells #[.string x0, .bool x1, .int .i64 x2, .slice a l.length c] 84)).alloc (.cells #[.string ⟨#[]⟩, .bool false, .int .i64 0, .slice none 0 0] 59)).alloc (.cells #[.string x0, .bool x1, .int .i64 x2, .slice none 0 0] 59))
  refine (HT.out _ H3.out).mono ?_
  rintro e w1 ⟨a', c', rfl, ho, hf, hb1, hcap⟩
  have HCap := mkHid hcap
  have K1 := blk_below (blk_old (blk_new (w.alloc (.cells #[.string x0, .bool x1, .int .i64 x2, .slice a l.length c] 84)) (.cells #[.string ⟨#[]⟩, .bool false, .int .i64 0, .slice none 0 0] 59) (w.heap.size + 1) (by simp)) (.cells #[.string x0, .bool x1, .int .i64 x2, .slice none 0 0] 59)) hb1
  have K2 := blk_below (blk_new ((w.alloc (.cells #[.string x0, .bool x1, .int .i64 x2, .slice a l.length c] 84)).alloc (.cells #[.string ⟨#[]⟩, .bool false, .int .i64 0, .slice none 0 0] 59)) (.cells #[.string x0, .bool x1, .int .i64 x2, .slice none 0 0] 59) (w.heap.size + 1 + 1) (by simp)) hb1
  obtain ⟨d0, d1, d2, d3⟩ := cel4 K1
  obtain ⟨f0, f1, f2, f3⟩ := cel4 K2
  have g1 : ∀ j, w1.frozen? ⟨w.heap.size + 1, j, none⟩ = false := unfrozen K1
  have g2 : ∀ j, w1.frozen? ⟨w.heap.size + 1 + 1, j, none⟩ = false := unfrozen K2
  have hf' : ∀ b o s, a' = some ⟨b, o, s⟩ → w.heap.size + 3 ≤ b := fun b o s e => by have := hf b o s e; simp at this; omega
  have hsz : w.heap.size + 3 ≤ w1.heap.size := by have := hb1.size; simp at this; omega
  have B1 := below_allocs (os := [_, _, _]) hb1
  have HN : Hid (∀ (x y z u v : Value), OwnV 9 (((((w1.setCell ⟨w.heap.size + 1 + 1, 3, none⟩ x).setCell ⟨w.heap.size + 1, 0, none⟩ y).setCell ⟨w.heap.size + 1, 1, none⟩ z).setCell ⟨w.heap.size + 1, 2, none⟩ u).setCell ⟨w.heap.size + 1, 3, none⟩ v) a' (tx l) ∧ Below w.heap.size w (((((w1.setCell ⟨w.heap.size + 1 + 1, 3, none⟩ x).setCell ⟨w.heap.size + 1, 0, none⟩ y).setCell ⟨w.heap.size + 1, 1, none⟩ z).setCell ⟨w.heap.size + 1, 2, none⟩ u).setCell ⟨w.heap.size + 1, 3, none⟩ v)) := mkHid (fun x y z u v => ⟨own_off (own_off (own_off (own_off (own_off ho (fun b o s e => by have := hf' b o s e; simp; omega)) (fun b o s e => by have := hf' b o s e; simp; omega)) (fun b o s e => by have := hf' b o s e; simp; omega)) (fun b o s e => by have := hf' b o s e; simp; omega)) (fun b o s e => by have := hf' b o s e; simp; omega), ((((B1.setCell (by simp; omega) _).setCell (by simp) _).setCell (by simp) _).setCell (by simp) _).setCell (by simp) _⟩)
  have HF := mkHid hf'
  clear ho hf hf' hb1 hcap K1 K2 B1 HT H3 HR
  go_wp2
  exact bodyPost_ret (v := .agg #[.string x0, .bool x1, .int .i64 x2, .slice a' l.length c']) (by simp [results, Try.results53, go_sem, d0, d1, d2, d3]) rfl ⟨a', c', rfl, (HN.out _ _ _ _ _).1, fun b o s e => by have := HF.out b o s e; omega, (HN.out _ _ _ _ _).2, HCap.out⟩
/-- a variable that is a row of cells is a row of our own -/
theorem varOwn {W wx : World} {z : Nat} {t : TypeId} {xs : List Value} {bs : List (Nat × Obj)} {rs : List (Option Addr × List Value)} {os : List Mine} (h : Mem W ((z, .cells xs.toArray t) :: bs) rs os wx) (hz : W.heap.size ≤ z) (hd : ∀ p ∈ bs, p.1 ≠ z) (hr : ∀ p ∈ rs, Off p.1 p.2 z) : Mem W bs rs (⟨t, some ⟨z, 0, none⟩, xs⟩ :: os) wx := by
  refine ⟨h.below, fun p hp => h.b p (.tail _ hp), h.r, ?_, ?_, ?_⟩
  · intro p hp
    rcases List.mem_cons.1 hp with rfl | hp
    · exact .inr ⟨z, rfl, [], by rw [List.append_nil]; exact h.b0⟩
    · exact h.o p hp
  · intro p hp hx g o s e
    rcases List.mem_cons.1 hp with rfl | hp
    · simp at e
      obtain ⟨rfl, rfl, rfl⟩ := e
      exact ⟨hz, hd, hr⟩
    · obtain ⟨n1, n2, n3⟩ := h.new p hp hx g o s e
      exact ⟨n1, fun q hq => n2 q (.tail _ hq), n3⟩
  · refine List.pairwise_cons.2 ⟨?_, h.apart⟩
    intro q hq hx g o s e
    simp at e
    obtain ⟨rfl, rfl, rfl⟩ := e
    by_cases hq0 : q.xs = []
    · exact .inl hq0
    · refine .inr (fun o2 s2 e2 => ?_)
      exact (h.new q hq hq0 _ o2 s2 e2).2.1 (z, .cells xs.toArray t) (.head _) rfl
theorem rdN_of {W wx : World} {bs : List (Nat × Obj)} {rs : List (Option Addr × List Value)} {os : List Mine} {a : Option Addr} {ds es : List Nd} (h : Mem W bs rs (⟨59, a, ncs ds⟩ :: (mines es ++ os)) wx) (he : ∀ d ∈ ds, d ∈ es) : RdN wx a ds :=
  ⟨h.o0.rd, fun d hd => (h.o ⟨9, d.2.2.2.1, tx d.2.2.2.2.2⟩ (.tail _ (List.mem_append_left _ (List.mem_map.2 ⟨d, he d hd, rfl⟩)))).rd⟩
/-- there is room for the keys -/
def CapN (ds : List Nd) : Prop := ∀ d ∈ ds, d.2.2.2.2.2.length ≤ d.2.2.2.2.1
/-- what toNodeS answers -/
def TPost (w : World) (ds : List Nd) (e : Ending) (w' : World) : Prop :=
  ∃ ds', e = .returned (.slice (some ⟨w.heap.size, 0, none⟩) ds.length ds.length) ∧ ds'.map val = ds.map val ∧ CapN ds' ∧ Mem w [] [] (⟨59, some ⟨w.heap.size, 0, none⟩, ncs ds'⟩ :: mines ds'.reverse) w'
theorem put_next (ds' : List Nd) (d : Nd) (n : Nat) (h : ds'.length < n) : (((((ncs (ds' ++ List.replicate (n - ds'.length) zeroN)).toArray.setIfInBounds (ds'.length * 4) (.string d.1)).setIfInBounds (ds'.length * 4 + 1) (.bool d.2.1)).setIfInBounds (ds'.length * 4 + 2) (.int .i64 d.2.2.1)).setIfInBounds (ds'.length * 4 + 3) (.slice d.2.2.2.1 d.2.2.2.2.2.length d.2.2.2.2.1)) = (ncs ((ds' ++ [d]) ++ List.replicate (n - (ds' ++ [d]).length) zeroN)).toArray := by
  simp only [List.setIfInBounds_toArray]
  rw [ncs_set _ _ _ (by simp; omega)]
  congr 2
  rw [List.set_append_right _ _ (Nat.le_refl _), Nat.sub_self]
  have e : n - ds'.length = (n - (ds' ++ [d]).length) + 1 := by simp; omega
  rw [e, List.replicate_succ, List.set_cons_zero]
  simp
theorem take_val {ds ds' : List Nd} {k : Nat} {d d' : Nd} (h : ds'.map val = (ds.take k).map val) (hx : ds[k]? = some d) (hd : val d' = val d) : (ds' ++ [d']).map val = (ds.take (k + 1)).map val := by
  rw [List.take_add_one, hx]
  simp [h, hd]
set_option maxRecDepth 100000 in
set_option maxHeartbeats 2000000 in
theorem toS_any (a : Option Addr) (c : Nat) (ds : List Nd) (w : World) (hs : ds.length ≤ 1048576) (hs2 : ∀ d ∈ ds, d.2.2.2.2.2.length ≤ 1048576) (hr : RdN w a ds) :
    Calls Try.prog 22 #[.slice a ds.length c] w (TPost w ds) := by
  have hmk := run_make_rows ds.length hs
  have M0 : Hid (Mem w [(w.heap.size, .cells (ncs ([] ++ List.replicate (ds.length - 0) zeroN)).toArray 59)] [] (mines ([] : List Nd).reverse) (w.alloc (.cells (ncs (List.replicate ds.length zeroN)).toArray 59))) := mkHid ((mem.start w).var _)
  go_enter Try.func22, Try.ntmps22
  go_wp2_with fail
  go_loopw [4] (fun i wr => ∃ (k : Nat) (ds' : List Nd), k ≤ ds.length ∧ i = .int .i64 k ∧ ds'.length = k ∧ Hid (ds'.map val = (ds.take k).map val ∧ CapN ds') ∧ Hid (Mem w [(w.heap.size, .cells (ncs (ds' ++ List.replicate (ds.length - ds'.length) zeroN)).toArray 59)] [] (mines ds'.reverse) wr))
    (fun i _ => ds.length - (intOf i).toNat)
  case atStart => exact ⟨0, [], Nat.zero_le _, rfl, rfl, mkHid ⟨rfl, fun d hd => by simp at hd⟩, M0⟩
  case round =>
    clear M0
    obtain ⟨k, ds', hk, rfl, hkl, hv, hM⟩ := hrel
    by_cases hlt : k < ds.length
    · have hlti : (k : Int) < (ds.length : Int) := by omega
      obtain ⟨d, hx⟩ : ∃ y, ds[k]? = some y := ⟨_, List.getElem?_eq_getElem hlt⟩
      have hdm := List.mem_of_getElem? hx
      obtain ⟨x0, x1, x2, da, dc, dl⟩ := d
      obtain ⟨g1, o1, rfl, c0, c1, c2, c3, l1⟩ := el hr.top hx
      simp only at c0 c1 c2 c3
      have e0 := (hM.out.below.cell (p := ⟨g1, o1 + k * 4, none⟩) l1).trans c0
      have e1 := (hM.out.below.cell (p := ⟨g1, o1 + k * 4 + 1, none⟩) l1).trans c1
      have e2 := (hM.out.below.cell (p := ⟨g1, o1 + k * 4 + 2, none⟩) l1).trans c2
      have e3 := (hM.out.below.cell (p := ⟨g1, o1 + k * 4 + 3, none⟩) l1).trans c3
      have HT := mkHid (to_any x0 x1 x2 da dc dl wr (hs2 _ hdm) ((hr.each _ hdm).below hM.out.below))
      unfold DPost at HT
      have HX := mkHid hx
      have HL : Hid (ds'.length < ds.length) := mkHid (by omega)
      clear c0 c1 c2 c3 hx hr hs2 hdm
      go_wp2_with fail
      refine HT.out.mono ?_
      rintro e w1 ⟨a2, cc, rfl, ho, hf, hb, hcap⟩
      have M1 := mkHid (hM.out.own hb ho hf)
      have hb0 := M1.out.b0
      have hfz := unfrozen_of_block hb0
      have M2 := (((M1.out.wr (k * 4) (.string x0) (Nat.le_refl _) (by simp) (by simp)).wr (k * 4 + 1) (.bool x1) (Nat.le_refl _) (by simp) (by simp)).wr (k * 4 + 2) (.int .i64 x2) (Nat.le_refl _) (by simp) (by simp)).wr (k * 4 + 3) (.slice a2 dl.length cc) (Nat.le_refl _) (by simp) (by simp)
      rw [← hkl, put_next ds' (x0, x1, x2, a2, cc, dl) ds.length HL.out, hkl] at M2
      have M3 : Hid (Mem w [(w.heap.size, .cells (ncs ((ds' ++ [(x0, x1, x2, a2, cc, dl)]) ++ List.replicate (ds.length - (ds' ++ [(x0, x1, x2, a2, cc, dl)]).length) zeroN)).toArray 59)] [] (mines (ds' ++ [(x0, x1, x2, a2, cc, dl)]).reverse) ((((w1.setCell ⟨w.heap.size, k * 4, none⟩ (.string x0)).setCell ⟨w.heap.size, k * 4 + 1, none⟩ (.bool x1)).setCell ⟨w.heap.size, k * 4 + 2, none⟩ (.int .i64 x2)).setCell ⟨w.heap.size, k * 4 + 3, none⟩ (.slice a2 dl.length cc))) := mkHid (by
        rw [List.reverse_append]
        exact M2)
      have hdsz : (ncs (ds' ++ List.replicate (ds.length - ds'.length) zeroN)).length = 4 * ds.length := by rw [ncs_len]; simp; omega
      have hz : ∀ j, j < 4 * ds.length → ∃ v, w1.cell? ⟨w.heap.size, j, none⟩ = some v := by
        intro j hj
        rw [cell_of_block hb0]
        exact ⟨_, by simp; exact List.getElem?_eq_getElem (by omega)⟩
      obtain ⟨v0, z0⟩ := hz (k * 4) (by omega)
      obtain ⟨v1, z1⟩ := hz (k * 4 + 1) (by omega)
      obtain ⟨v2, z2⟩ := hz (k * 4 + 2) (by omega)
      obtain ⟨v3, z3⟩ := hz (k * 4 + 3) (by omega)
      have N1 : Hid ((ds' ++ [(x0, x1, x2, a2, cc, dl)]).map val = (ds.take (k + 1)).map val ∧ CapN (ds' ++ [(x0, x1, x2, a2, cc, dl)])) := mkHid ⟨take_val hv.out.1 HX.out rfl, fun d hd => by
        rcases List.mem_append.1 hd with hd | hd
        · exact hv.out.2 d hd
        · simp at hd
          subst hd
          exact hcap⟩
      have hl2 : (ds' ++ [(x0, x1, x2, a2, cc, dl)]).length = k + 1 := by simp [hkl]
      clear hb ho hf hcap M1 M2 hM hb0 hdsz HX HL HT e0 e1 e2 e3 hv hz
      go_wp2
      exact ⟨⟨k + 1, ds' ++ [(x0, x1, x2, a2, cc, dl)], by omega, by go_num, hl2, N1, M3⟩, by simp [intOf]; omega⟩
    · obtain rfl : k = ds.length := by omega
      have R : Hid (TPost w ds (.returned (.slice (some ⟨w.heap.size, 0, none⟩) ds.length ds.length)) wr) := mkHid (by
        have h1 := hM.out
        rw [hkl, Nat.sub_self, List.replicate_zero, List.append_nil] at h1
        have h2 := hv.out.1
        rw [List.take_of_length_le (Nat.le_refl _)] at h2
        exact ⟨ds', rfl, h2, hv.out.2, varOwn h1 (Nat.le_refl _) (by simp) (by simp)⟩)
      clear hM hv hr hs2
      go_wp2
      go_ret
      exact R.out
theorem rdN_mem {W wx : World} {a : Option Addr} {ds' : List Nd} {bs : List (Nat × Obj)} {rs : List (Option Addr × List Value)} {os : List Mine} (h : Mem W bs rs (⟨59, a, ncs ds'⟩ :: (mines ds'.reverse ++ os)) wx) : RdN wx a ds' := rdN_of h (fun d hd => List.mem_reverse.2 hd)
set_option maxRecDepth 100000 in
set_option maxHeartbeats 1000000 in
theorem eq_same (x0 : ByteArray) (x1 : Bool) (x2 : Int) (a b : Option Addr) (ca cb : Nat) (l : Tx) (w : World) (hl : l.length ≤ 1048576) (ha : Rd w a (tx l)) (hb : Rd w b (tx l)) :
    Calls Try.prog 54 #[.agg #[.string x0, .bool x1, .int .i64 x2, .slice a l.length ca], .agg #[.string x0, .bool x1, .int .i64 x2, .slice b l.length cb]] w fun e w' => e = .returned (.bool true) ∧ Below w.heap.size w w' := by
  have h1 : (x2 != x2) = false := by simp
  have h2 : (!x0.toList == x0.toList) = false := by simp
  have h3 : (x1 != x1) = false := by simp
  have HE := mkHid (strs.eqX_same a b ca cb l _ hl ((ha.alloc (.cells #[.string x0, .bool x1, .int .i64 x2, .slice a l.length ca] 59)).alloc (.cells #[.string x0, .bool x1, .int .i64 x2, .slice b l.length cb] 59)) ((hb.alloc (.cells #[.string x0, .bool x1, .int .i64 x2, .slice a l.length ca] 59)).alloc (.cells #[.string x0, .bool x1, .int .i64 x2, .slice b l.length cb] 59)))
  clear ha hb
  go_enter Try.func54, Try.ntmps54
  go_wp2_with fail
  refine HE.out.mono ?_
  rintro e w1 ⟨rfl, hb1⟩
  have B1 := mkHid (below_allocs (os := [_, _]) hb1)
  clear hb1 HE
  go_wp2
  go_ret
  exact ⟨rfl, B1.out⟩
set_option maxRecDepth 100000 in
set_option maxHeartbeats 2000000 in
theorem eqS_same (a b : Option Addr) (ca cb : Nat) (ds es : List Nd) (w : World) (n : Nat) (hn : ds.length = n) (hv : es.map val = ds.map val) (hl : n ≤ 1048576) (hs : ∀ d ∈ ds, d.2.2.2.2.2.length ≤ 1048576) (ha : RdN w a ds) (hb : RdN w b es) :
    Calls Try.prog 23 #[.slice a n ca, .slice b n cb] w fun e w' => e = .returned (.bool true) ∧ Below w.heap.size w w' := by
  have hli : (n : Int) ≤ 1048576 := by omega
  have HV := mkHid hv
  clear hv
  go_enter Try.func23, Try.ntmps23
  go_wp2
  go_loopw [5] (fun i wr => ∃ k : Nat, k ≤ n ∧ i = .int .i64 k ∧ Hid (Below w.heap.size w wr))
    (fun i _ => n - (intOf i).toNat)
  case atStart => exact ⟨0, Nat.zero_le _, rfl, mkHid (Below.refl _ _)⟩
  case round =>
    obtain ⟨k, hk, rfl, hB⟩ := hrel
    by_cases hlt : k < n
    · have hlti : (k : Int) < (n : Int) := by omega
      obtain ⟨d, hx⟩ : ∃ y, ds[k]? = some y := ⟨_, List.getElem?_eq_getElem (by omega)⟩
      obtain ⟨x0, x1, x2, da, dc, dl⟩ := d
      obtain ⟨ea, ec, hy⟩ := val_at HV.out hx
      obtain ⟨g1, o1, rfl, c0, c1, c2, c3, l1⟩ := el ha.top hx
      obtain ⟨g2, o2, rfl, d0, d1, d2, d3, l2⟩ := el hb.top hy
      simp only at c0 c1 c2 c3 d0 d1 d2 d3
      have e0 := (hB.out.cell (p := ⟨g1, o1 + k * 4, none⟩) l1).trans c0
      have e1 := (hB.out.cell (p := ⟨g1, o1 + k * 4 + 1, none⟩) l1).trans c1
      have e2 := (hB.out.cell (p := ⟨g1, o1 + k * 4 + 2, none⟩) l1).trans c2
      have e3 := (hB.out.cell (p := ⟨g1, o1 + k * 4 + 3, none⟩) l1).trans c3
      have f0 := (hB.out.cell (p := ⟨g2, o2 + k * 4, none⟩) l2).trans d0
      have f1 := (hB.out.cell (p := ⟨g2, o2 + k * 4 + 1, none⟩) l2).trans d1
      have f2 := (hB.out.cell (p := ⟨g2, o2 + k * 4 + 2, none⟩) l2).trans d2
      have f3 := (hB.out.cell (p := ⟨g2, o2 + k * 4 + 3, none⟩) l2).trans d3
      have HE := mkHid (fun wx (h : Below w.heap.size w wx) => eq_same x0 x1 x2 da ea dc ec dl wx (hs _ (List.mem_of_getElem? hx)) ((ha.each _ (List.mem_of_getElem? hx)).below h) ((hb.each _ (List.mem_of_getElem? hy)).below h))
      clear c0 c1 c2 c3 d0 d1 d2 d3 hx hy hs ha hb
      go_wp2_with fail
      go_region_held3 (fun w' => w'.cell? ⟨g1, o1 + k * 4, none⟩ = some (.string x0) ∧ w'.cell? ⟨g1, o1 + k * 4 + 1, none⟩ = some (.bool x1) ∧ w'.cell? ⟨g1, o1 + k * 4 + 2, none⟩ = some (.int .i64 x2) ∧ w'.cell? ⟨g1, o1 + k * 4 + 3, none⟩ = some (.slice da dl.length dc) ∧ w'.cell? ⟨g2, o2 + k * 4, none⟩ = some (.string x0) ∧ w'.cell? ⟨g2, o2 + k * 4 + 1, none⟩ = some (.bool x1) ∧ w'.cell? ⟨g2, o2 + k * 4 + 2, none⟩ = some (.int .i64 x2) ∧ w'.cell? ⟨g2, o2 + k * 4 + 3, none⟩ = some (.slice ea dl.length ec)) (go_keep)
        ((go_at_call 54; refine Calls.mono (HE.out _ (by first | exact hB.out | exact hB.out.drew)) ?_; rintro e w1 ⟨rfl, hb1⟩; have r1 := re (w := wr) hb1 rfl rfl rfl rfl; have B1 := mkHid (hB.out.trans (r1.mono hB.out.size)); have q0 := (r1.cell (p := ⟨g1, o1 + k * 4, none⟩) (World.block_lt_of_cell? wr _ e0)).trans e0; have q1 := (r1.cell (p := ⟨g1, o1 + k * 4 + 1, none⟩) (World.block_lt_of_cell? wr _ e1)).trans e1; have q2 := (r1.cell (p := ⟨g1, o1 + k * 4 + 2, none⟩) (World.block_lt_of_cell? wr _ e2)).trans e2; have q3 := (r1.cell (p := ⟨g1, o1 + k * 4 + 3, none⟩) (World.block_lt_of_cell? wr _ e3)).trans e3; have q4 := (r1.cell (p := ⟨g2, o2 + k * 4, none⟩) (World.block_lt_of_cell? wr _ f0)).trans f0; have q5 := (r1.cell (p := ⟨g2, o2 + k * 4 + 1, none⟩) (World.block_lt_of_cell? wr _ f1)).trans f1; have q6 := (r1.cell (p := ⟨g2, o2 + k * 4 + 2, none⟩) (World.block_lt_of_cell? wr _ f2)).trans f2; have q7 := (r1.cell (p := ⟨g2, o2 + k * 4 + 3, none⟩) (World.block_lt_of_cell? wr _ f3)).trans f3; clear hb1 r1))
      go_wp2
      exact ⟨⟨k + 1, by omega, by go_num, by first | exact B1 | exact mkHid B1.out.drew⟩, by simp [intOf]; omega⟩
    · obtain rfl : k = n := by omega
      clear hs ha hb
      go_wp2
      go_ret
      exact ⟨rfl, hB.out⟩
end Go.Proofs.Ytmmmadehifajlaa.nod
