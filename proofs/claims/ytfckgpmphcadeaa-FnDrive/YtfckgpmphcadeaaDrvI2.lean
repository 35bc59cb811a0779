/-
  What spec.l08In answers and leaves. Conditions: at most 1,048,576 files, which lie in memory, in a slice that holds them.
-/
import Derived.Test.YtfckgpmphcadeaaDrvO
namespace Go.Proofs.Ytfckgpmphcadeaa.drv
open Go.RowKit Go.Joins Go.Sort
open Go.Proofs.Ytfckgpmphcadeaa.base Go.Proofs.Ytfckgpmphcadeaa.blk Go.Proofs.Ytfckgpmphcadeaa.aid
open Go.Proofs.Ytfckgpmphcadeaa.row (Rd Own OwnV appSem app_fold)
open Go.Proofs.Ytfckgpmphcadeaa.rwStored (cs)
set_option linter.unusedVariables false

theorem blk_lt {w : World} {j : Nat} {o : Obj} (h : w.heap[j]? = some o) : j < w.heap.size := (Array.getElem?_eq_some_iff.1 h).1
/-- the first files in a row of our own -/
theorem in_first (a : Option Addr) (c : Nat) (l : List File) (k : Nat) (wr w : World) (hk : k ≤ l.length) (hl : l.length ≤ 1048576) (hc : l.length ≤ c) (hr : Rd w a (cs l)) (hb : Below w.heap.size w wr) (hs : w.heap.size < wr.heap.size) :
    ∃ g cap w1, (appSem #[23, 23] 23 #[.slice (some ⟨wr.heap.size, 0, none⟩) 0 0, .slice a k c]).run Try.prog (wr.alloc (.cells #[] 39)) = .ok (.slice (some ⟨g, 0, none⟩) k cap) w1 ∧
      w1.ownsRow (w.heap.size + 1) 39 3 (.slice (some ⟨g, 0, none⟩) k cap) k (cs (l.take k)) ∧ (wr.alloc (.cells #[] 39)).grownBy w1 (some wr.heap.size) ∧ w.heap.size + 1 ≤ w1.heap.size := by
  have hrd : Rd (wr.alloc (.cells #[] 39)) a (cs l) := (hr.below hb).alloc _
  have O0 : (wr.alloc (.cells #[] 39)).ownsRow (w.heap.size + 1) 39 3 (.slice (some ⟨wr.heap.size, 0, none⟩) 0 0) 0 (cs []) :=
    World.ownsRow_made (base := w.heap.size + 1) (e := 39) (size := 3) wr #[] 0 hs (by decide) rfl
  have q1 : (l.take k).length = k := by simp; omega
  obtain ⟨g1, cap1, w1, happ1, hown1, hgr1⟩ := appR _ (w.heap.size + 1) wr.heap.size 0 0 [] rfl O0 (by simp; omega) a c (l.take k) (rd_take hrd k) (by omega)
  rw [q1, Nat.zero_add] at happ1 hown1
  exact ⟨g1, cap1, w1, happ1, hown1, hgr1, by have := (hown1.lt g1 rfl); omega⟩
attribute [local go_sem ↓] app_fold slice_fold
set_option maxRecDepth 100000 in
set_option maxHeartbeats 4000000 in
theorem inS_any (a : Option Addr) (c : Nat) (l : List File) (n0 n1 : ByteArray) (n2 : Int) (w : World) (hl : l.length ≤ 1048576) (hc : l.length ≤ c) (hr : Rd w a (cs l)) :
    Calls Try.prog 105 #[.slice a l.length c, .agg #[.string n0, .string n1, .int .i64 n2]] w (RPost w (put l (n0, n1, n2))) := by
  have HA := mkHid hr
  have HK0 := blk_new w (.cells #[.string n0, .string n1, .int .i64 n2] 39) w.heap.size rfl
  have HB0 := below_alloc1 w (.cells #[.string n0, .string n1, .int .i64 n2] 39)
  have hli : (l.length : Int) ≤ 1048576 := by omega
  clear hr
  go_enter Try.func105, Try.ntmps105
  go_wp2_with fail
  go_loopw [5] (fun i wr => ∃ k : Nat, k ≤ l.length ∧ i = .int .i64 k ∧ Hid (spot n0 l 0 = spot n0 (l.drop k) k) ∧ Hid (Below w.heap.size w wr) ∧ Hid (wr.heap[w.heap.size]? = some (.cells #[.string n0, .string n1, .int .i64 n2] 39)))
    (fun i _ => l.length - (intOf i).toNat)
  case atStart => exact ⟨0, Nat.zero_le _, rfl, mkHid (by simp), mkHid HB0, mkHid HK0⟩
  case round =>
    obtain ⟨k, hkl, rfl, hE, HB, HK⟩ := hrel
    obtain ⟨c0, c1, c2⟩ := cel3 HK.out
    have hkli : (k : Int) ≤ (l.length : Int) := by omega
    have hS1 := fun wx => sl_hi a l.length c k (by omega) wx
    clear HK0 HB0
    by_cases hlt : k < l.length
    · have hlti : (k : Int) < (l.length : Int) := by omega
      have hltn : (k < l.length) = True := by simp [hlt]
      obtain ⟨⟨x0, x1, x2⟩, hx⟩ : ∃ y, l[k]? = some y := ⟨_, List.getElem?_eq_getElem hlt⟩
      obtain ⟨ga, oa, rfl, e0, e1, e2, l1⟩ := rwStored.el (HA.out.below HB.out) hx
      have hst := spot_step l n0 k _ hx
      simp only at e0 e1 e2 hst
      cases hb : Op.bytesLess x0.toList n0.toList with
      | true =>
        have N1 : Hid (spot n0 l 0 = spot n0 (l.drop (k + 1)) (k + 1)) := mkHid (by rw [hE.out, hst, if_pos (show blt x0 n0 = true from hb)])
        clear hx hst hE
        go_wp2_with fail
        go_quiet (fail)
        go_wp2
        go_roundw
        case rel => exact ⟨k + 1, by omega, by go_num, N1, mkHid (below_drewN HB.out), mkHid HK.out⟩
        case measure => simp [intOf]; omega
      | false =>
        have hk : spot n0 l 0 = k := by rw [hE.out, hst, if_neg (show ¬ blt x0 n0 = true by unfold blt; rw [hb]; simp)]
        have HPk := mkHid hk
        have HX := mkHid hx
        clear hst hE hk hx
        go_wp2_with fail
        go_quiet (fail)
        have HBv := mkHid (below_drewN (n := nq) HB.out)
        have HKv : Hid ((wr.drewN nq).heap[w.heap.size]? = some (.cells #[.string n0, .string n1, .int .i64 n2] 39)) := mkHid HK.out
        generalize wr.drewN nq = wv at *
        clear c0 c1 c2 HB HK e0 e1 e2
        by_cases he : x0 = n0
        · have heq : (x0.toList == n0.toList) = true := by rw [he]; simp
          obtain ⟨g1, cap1, w1, happ1, hown1, hgr1, hB1⟩ := in_first (some ⟨ga, oa, none⟩) c l k wv w hkl hl hc HA.out HBv.out (blk_lt HKv.out)
          obtain ⟨g2, cap2, w2, happ2, hown2, hgr2⟩ := rwStored.app w1 (w.heap.size + 1) (.slice (some ⟨g1, 0, none⟩) k cap1) k (l.take k) n0 n1 n2 (by simp <;> omega) hown1 hB1 (by omega)
          have HB1 := mkHid (below_of_grew ((HBv.out.trans ((below_alloc1 wv _).mono HBv.out.size))) (by have := HBv.out.size; simp; omega) hgr1 (by have := HBv.out.size; have := (blk_lt HKv.out); omega))
          have HB2 := mkHid ((HB1.out.trans ((below_alloc1 w1 _).mono HB1.out.size)).grown hgr2 (by have := HB1.out.size; simp; omega) (fun j hj => by have := (hown1.lt j hj).1; omega))
          have K1 := mkHid ((hgr1.block w.heap.size (by have := blk_lt HKv.out; simp; omega) (by have := blk_lt HKv.out; simp; omega)).trans (blk_old HKv.out (.cells #[] 39)))
          have K2 := mkHid ((hgr2.block w.heap.size (by have := blk_lt K1.out; simp; omega) (fun e => by have := (hown1.lt _ e.symm).1; omega)).trans (blk_old K1.out (.cells #[.string n0, .string n1, .int .i64 n2] 39)))
          obtain ⟨f0, f1, f2⟩ := cel3 K1.out
          obtain ⟨h0, h1, h2⟩ := cel3 K2.out
          have O2 := mkHid hown2
          clear hown1 hown2 hgr1 hgr2 hB1
          go_wp2_with fail
          obtain ⟨g9, o9, e9, i0, _, _, _⟩ := rwStored.el (HA.out.below HB2.out) HX.out
          cases e9
          simp only at i0
          go_quiet (fail)
          have O3 : Hid ((w2.drewN nq).ownsRow (w.heap.size + 1) 39 3 (.slice (some ⟨g2, 0, none⟩) (k + 1) cap2) (k + 1) (cs (l.take k ++ [(n0, n1, n2)]))) := mkHid O2.out
          have HB3 := mkHid (below_drewN (n := nq) HB2.out)
          have hd3 := rd_drop (c := c) (HA.out.below HB3.out) (k + 1) (by omega) hc
          have hsz3 := (O3.out.lt g2 rfl)
          obtain ⟨g3, cap3, w3, happ3, hown3, hgr3⟩ := appR (w2.drewN nq) (w.heap.size + 1) g2 (k + 1) cap2 (l.take k ++ [(n0, n1, n2)]) (by simp <;> omega) O3.out (by omega) (lo (some ⟨ga, oa, none⟩) (k + 1) c) (c - (k + 1)) (l.drop (k + 1)) hd3 (by simp; omega)
          have hS2 := fun wx => sl_lo (some ⟨ga, oa, none⟩) l.length c (k + 1) (by omega) wx
          have ei : ((k + 1 : Nat) : Int) = (k : Int) + 1 := by omega
          rw [ei] at hS2
          clear ei
          have hll : (l.drop (k + 1)).length = l.length - (k + 1) := by simp
          rw [hll] at happ3 hown3
          have HP : Hid (RPost w (put l (n0, n1, n2)) (.returned (.slice (some ⟨g3, 0, none⟩) (k + 1 + (l.length - (k + 1))) cap3)) w3) := mkHid (by
            have hp : put l (n0, n1, n2) = (l.take k ++ [(n0, n1, n2)]) ++ l.drop (k + 1) := by unfold put; rw [HPk.out, HX.out]; simp [he]
            have hpl : (put l (n0, n1, n2)).length = k + 1 + (l.length - (k + 1)) := by rw [hp]; simp <;> omega
            refine ⟨g3, cap3, by rw [hpl], by rw [hpl, hp]; exact ownsRow_le hown3 (by omega), below_of_grew HB3.out HB3.out.size hgr3 (by omega)⟩)
          clear hown3 hgr3 hd3 O2 O3 hll hsz3
          go_wp2
          go_ret
          exact HP.out
        · have heq := bytes_ne he
          obtain ⟨g1, cap1, w1, happ1, hown1, hgr1, hB1⟩ := in_first (some ⟨ga, oa, none⟩) c l k wv w hkl hl hc HA.out HBv.out (blk_lt HKv.out)
          obtain ⟨g2, cap2, w2, happ2, hown2, hgr2⟩ := rwStored.app w1 (w.heap.size + 1) (.slice (some ⟨g1, 0, none⟩) k cap1) k (l.take k) n0 n1 n2 (by simp <;> omega) hown1 hB1 (by omega)
          have HB1 := mkHid (below_of_grew ((HBv.out.trans ((below_alloc1 wv _).mono HBv.out.size))) (by have := HBv.out.size; simp; omega) hgr1 (by have := HBv.out.size; have := (blk_lt HKv.out); omega))
          have HB2 := mkHid ((HB1.out.trans ((below_alloc1 w1 _).mono HB1.out.size)).grown hgr2 (by have := HB1.out.size; simp; omega) (fun j hj => by have := (hown1.lt j hj).1; omega))
          have K1 := mkHid ((hgr1.block w.heap.size (by have := blk_lt HKv.out; simp; omega) (by have := blk_lt HKv.out; simp; omega)).trans (blk_old HKv.out (.cells #[] 39)))
          have K2 := mkHid ((hgr2.block w.heap.size (by have := blk_lt K1.out; simp; omega) (fun e => by have := (hown1.lt _ e.symm).1; omega)).trans (blk_old K1.out (.cells #[.string n0, .string n1, .int .i64 n2] 39)))
          obtain ⟨f0, f1, f2⟩ := cel3 K1.out
          obtain ⟨h0, h1, h2⟩ := cel3 K2.out
          have O2 := mkHid hown2
          clear hown1 hown2 hgr1 hgr2 hB1
          go_wp2_with fail
          obtain ⟨g9, o9, e9, i0, _, _, _⟩ := rwStored.el (HA.out.below HB2.out) HX.out
          cases e9
          simp only at i0
          go_quiet (fail)
          have O3 : Hid ((w2.drewN nq).ownsRow (w.heap.size + 1) 39 3 (.slice (some ⟨g2, 0, none⟩) (k + 1) cap2) (k + 1) (cs (l.take k ++ [(n0, n1, n2)]))) := mkHid O2.out
          have HB3 := mkHid (below_drewN (n := nq) HB2.out)
          have hd3 := rd_drop (c := c) (HA.out.below HB3.out) k (by omega) hc
          have hsz3 := (O3.out.lt g2 rfl)
          obtain ⟨g3, cap3, w3, happ3, hown3, hgr3⟩ := appR (w2.drewN nq) (w.heap.size + 1) g2 (k + 1) cap2 (l.take k ++ [(n0, n1, n2)]) (by simp <;> omega) O3.out (by omega) (lo (some ⟨ga, oa, none⟩) k c) (c - k) (l.drop k) hd3 (by simp; omega)
          have hS2 := fun wx => sl_lo (some ⟨ga, oa, none⟩) l.length c k (by omega) wx
          have hll : (l.drop k).length = l.length - k := by simp
          rw [hll] at happ3 hown3
          have HP : Hid (RPost w (put l (n0, n1, n2)) (.returned (.slice (some ⟨g3, 0, none⟩) (k + 1 + (l.length - k)) cap3)) w3) := mkHid (by
            have hp : put l (n0, n1, n2) = (l.take k ++ [(n0, n1, n2)]) ++ l.drop k := by unfold put; rw [HPk.out, HX.out]; simp [he]
            have hpl : (put l (n0, n1, n2)).length = k + 1 + (l.length - k) := by rw [hp]; simp <;> omega
            refine ⟨g3, cap3, by rw [hpl], by rw [hpl, hp]; exact ownsRow_le hown3 (by omega), below_of_grew HB3.out HB3.out.size hgr3 (by omega)⟩)
          clear hown3 hgr3 hd3 O2 O3 hll hsz3
          go_wp2
          go_ret
          exact HP.out
    · obtain rfl : k = l.length := by omega
      have hltn : (l.length < l.length) = False := by simp
      have hk : spot n0 l 0 = l.length := by rw [hE.out, List.drop_of_length_le (Nat.le_refl _)]; rfl
      have HPk := mkHid hk
      clear hE hk
      go_wp2_with fail
      go_quiet (fail)
      have HBv := mkHid (below_drewN (n := nq) HB.out)
      have HKv : Hid ((wr.drewN nq).heap[w.heap.size]? = some (.cells #[.string n0, .string n1, .int .i64 n2] 39)) := mkHid HK.out
      generalize wr.drewN nq = wv at *
      clear c0 c1 c2 HB HK
      obtain ⟨g1, cap1, w1, happ1, hown1, hgr1, hB1⟩ := in_first a c l l.length wv w hkl hl hc HA.out HBv.out (blk_lt HKv.out)
      obtain ⟨g2, cap2, w2, happ2, hown2, hgr2⟩ := rwStored.app w1 (w.heap.size + 1) (.slice (some ⟨g1, 0, none⟩) l.length cap1) l.length (l.take l.length) n0 n1 n2 (by simp <;> omega) hown1 hB1 (by omega)
      have HB1 := mkHid (below_of_grew ((HBv.out.trans ((below_alloc1 wv _).mono HBv.out.size))) (by have := HBv.out.size; simp; omega) hgr1 (by have := HBv.out.size; have := (blk_lt HKv.out); omega))
      have HB2 := mkHid ((HB1.out.trans ((below_alloc1 w1 _).mono HB1.out.size)).grown hgr2 (by have := HB1.out.size; simp; omega) (fun j hj => by have := (hown1.lt j hj).1; omega))
      have K1 := mkHid ((hgr1.block w.heap.size (by have := blk_lt HKv.out; simp; omega) (by have := blk_lt HKv.out; simp; omega)).trans (blk_old HKv.out (.cells #[] 39)))
      have K2 := mkHid ((hgr2.block w.heap.size (by have := blk_lt K1.out; simp; omega) (fun e => by have := (hown1.lt _ e.symm).1; omega)).trans (blk_old K1.out (.cells #[.string n0, .string n1, .int .i64 n2] 39)))
      obtain ⟨f0, f1, f2⟩ := cel3 K1.out
      obtain ⟨h0, h1, h2⟩ := cel3 K2.out
      have O2 := mkHid hown2
      clear hown1 hown2 hgr1 hgr2 hB1
      go_wp2_with fail
      go_quiet (fail)
      have O3 : Hid ((w2.drewN nq).ownsRow (w.heap.size + 1) 39 3 (.slice (some ⟨g2, 0, none⟩) (l.length + 1) cap2) (l.length + 1) (cs (l.take l.length ++ [(n0, n1, n2)]))) := mkHid O2.out
      have HB3 := mkHid (below_drewN (n := nq) HB2.out)
      have hd3 := rd_drop (c := c) (HA.out.below HB3.out) l.length (by omega) hc
      have hsz3 := (O3.out.lt g2 rfl)
      obtain ⟨g3, cap3, w3, happ3, hown3, hgr3⟩ := appR (w2.drewN nq) (w.heap.size + 1) g2 (l.length + 1) cap2 (l.take l.length ++ [(n0, n1, n2)]) (by simp <;> omega) O3.out (by omega) (lo a l.length c) (c - l.length) (l.drop l.length) hd3 (by simp; omega)
      have hS2 := fun wx => sl_lo a l.length c l.length (by omega) wx
      rw [Nat.sub_self] at hS2
      have hll : (l.drop l.length).length = 0 := by simp
      rw [hll, Nat.add_zero] at happ3 hown3
      have HP : Hid (RPost w (put l (n0, n1, n2)) (.returned (.slice (some ⟨g3, 0, none⟩) (l.length + 1) cap3)) w3) := mkHid (by
        have hp : put l (n0, n1, n2) = (l.take l.length ++ [(n0, n1, n2)]) ++ l.drop l.length := by unfold put; rw [HPk.out, List.getElem?_eq_none (by simp)]; simp
        have hpl : (put l (n0, n1, n2)).length = l.length + 1 := by rw [hp]; simp <;> omega
        refine ⟨g3, cap3, by rw [hpl], by rw [hpl, hp]; exact ownsRow_le hown3 (by omega), below_of_grew HB3.out HB3.out.size hgr3 (by omega)⟩)
      clear hown3 hgr3 hd3 O2 O3 hll hsz3
      go_wp2
      go_ret
      exact HP.out
end Go.Proofs.Ytfckgpmphcadeaa.drv
