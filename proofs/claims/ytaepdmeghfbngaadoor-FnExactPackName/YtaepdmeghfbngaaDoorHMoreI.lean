/-
  What impl.HashMore answers and leaves. Conditions: at most 1,048,576 numbers, which lie in memory; at most 1,048,576 bytes each; the numbers of the rounds are there.
-/
import Derived.Test.YtaepdmeghfbngaaDoorHImpl
import Derived.Test.YtaepdmeghfbngaaDoorHRightI
import Derived.Test.YtaepdmeghfbngaaDoorCopyI
import Derived.Test.YtaepdmeghfbngaaDoorTakeI
namespace Go.Proofs.YtaepdmeghfbngaaDoor.himpl
open Go.RowKit Go.Joins
open Go.Proofs.YtaepdmeghfbngaaDoor.base Go.Proofs.YtaepdmeghfbngaaDoor.ints Go.Proofs.YtaepdmeghfbngaaDoor.blk
open Go.Proofs.YtaepdmeghfbngaaDoor.sha (hRight endH digest short moreH startL GV after rest fn list8 list8_len rd_fn hRight_parts rowF)
open Go.Proofs.YtaepdmeghfbngaaDoor.shaI (take_any after_bd st)
set_option linter.unusedVariables false

theorem row_own {w : World} {g : Nat} {f : Nat → Int} (h : w.heap[g]? = some (rowF .i64 2 8 f)) : OwnS w g (list8 f) := OwnS.of (by
  unfold Own
  rw [h]
  unfold sha.rowF sha.list8
  rw [List.map_map]
  rfl)
theorem ipost_put {w W : World} {a : Option Addr} {c : Nat} {zs : List Int} {r : ByteArray} {sz : Int} (hr : OwnV W a zs) (hge : ∀ b o s, a = some ⟨b, o, s⟩ → w.heap.size + 1 < b) (hb : Below w.heap.size w W) (x0 x1 x2 : Value) :
    IPost w (zs, r, sz) (.returned (sha.hash a zs.length c r sz)) (((W.setCell ⟨w.heap.size + 1, 0, none⟩ x0).setCell ⟨w.heap.size + 1, 1, none⟩ x1).setCell ⟨w.heap.size + 1, 2, none⟩ x2) := by
  refine ⟨a, c, rfl, ?_, fun b o s e => by have := hge b o s e; omega, ((hb.setCell (by simp) _).setCell (by simp) _).setCell (by simp) _⟩
  rcases hr with ⟨rfl, rfl⟩ | ⟨g, rfl, ho⟩
  · exact .inl ⟨rfl, rfl⟩
  · have := hge g 0 none rfl
    exact .inr ⟨g, rfl, ((ho.other _ _ (by simp; omega)).other _ _ (by simp; omega)).other _ _ (by simp; omega)⟩
theorem pre_block (s : ByteArray) (n j : Nat) (hj : j < n) : (s.extract 0 (64 * n)).extract (64 * j) (64 * j + 64) = s.extract (64 * j) (64 * j + 64) := by
  apply ByteArray.ext
  simp
  congr 1
  omega
theorem after_pre (z : Nat → Int) (s : ByteArray) (n : Nat) : ∀ k, k ≤ n → after z (s.extract 0 (64 * n)) k = after z s k := by
  intro k
  induction k with
  | zero => intro _; rfl
  | succ k ih =>
    intro hk
    show sha.block (after z (s.extract 0 (64 * n)) k) (sha.wordAt ((s.extract 0 (64 * n)).extract (64 * k) (64 * k + 64))) = sha.block (after z s k) (sha.wordAt (s.extract (64 * k) (64 * k + 64)))
    rw [ih (by omega), pre_block s n k (by omega)]
theorem fn_bd {zs : List Int} {r : ByteArray} {size : Int} (h : hRight zs r size = true) : ∀ i, i < 8 → 0 ≤ fn zs i ∧ fn zs i ≤ 4294967295 := by
  intro i hi
  have h8 := (hRight_parts h).1
  unfold hRight at h
  simp only [Bool.and_eq_true, List.all_eq_true] at h
  obtain ⟨z, hz⟩ : ∃ z, zs[i]? = some z := ⟨_, List.getElem?_eq_getElem (by omega)⟩
  have hu := h.2 z (List.mem_of_getElem? hz)
  simp [sha.u32B] at hu
  unfold fn
  simp [List.getD, hz]
  omega

set_option maxRecDepth 100000 in
set_option maxHeartbeats 1000000 in
theorem more_any : IMore := by
  intro b0 off cap zs r t size w hl hr hb0 hrs hts hs0 hs1 hG
  by_cases h1 : 20000 < (t.size : Int)
  · have E : moreH zs r size t = ([], ⟨#[]⟩, 0) := by unfold moreH; rw [if_pos (by omega)]
    rw [E]
    clear E
    unfold sha.hash
    go_enter Tryd.func15, Tryd.ntmps15
    go_wp2
    refine bodyPost_ret (v := sha.hash none 0 0 ⟨#[]⟩ 0) (by simp [results, Tryd.results15, go_sem, sha.hash]) rfl ⟨none, 0, rfl, .inl ⟨rfl, rfl⟩, fun b o s e => by simp at e, ?_⟩
    first | exact below_alloc2 w _ _ | exact (((below_alloc2 w _ _).setCell (by simp) _).setCell (by simp) _).setCell (by simp) _
  have h1' : (t.size : Int) ≤ 20000 := by omega
  have HRt : Hid (∀ wx, Below w.heap.size w wx → Calls Tryd.prog 19 #[.agg #[.slice (some ⟨b0, off, none⟩) zs.length cap, .string r, .int .i64 size]] wx fun e w' => e = .returned (.bool (hRight zs r size)) ∧ Below wx.heap.size wx w') :=
    mkHid (fun wx hb => right_any b0 off cap zs r size wx hl (hr.below hb) hrs hs0 hs1)
  have HCp : Hid (∀ wx, Below w.heap.size w wx → Calls Tryd.prog 23 #[.agg #[.slice (some ⟨b0, off, none⟩) zs.length cap, .string r, .int .i64 size]] wx fun e w' => IPost wx (zs, r, size) e w') :=
    mkHid (fun wx hb => copy_any b0 off cap zs r size wx hl (hr.below hb) hrs)
  have HE := mkHid (show moreH zs r size t = if hRight zs r size = false ∨ 1099511627776 < size + t.size then (zs, r, size) else (list8 (after (fn zs) (r ++ t) ((r ++ t).size / 64)), rest (r ++ t), size + t.size) by unfold moreH; rw [if_neg (by omega)])
  by_cases hR : hRight zs r size = true ∧ size + t.size ≤ 1099511627776
  · obtain ⟨hR1, hR2⟩ := hR
    obtain ⟨h8, hz0, hz1, hr64, hrl⟩ := hRight_parts hR1
    obtain ⟨s, hsE⟩ : ∃ s, s = r ++ t := ⟨_, rfl⟩
    have hss : s.size = r.size + t.size := by rw [hsE]; simp
    obtain ⟨n, hn⟩ : ∃ n, n = s.size / 64 := ⟨_, rfl⟩
    obtain ⟨m, hm⟩ : ∃ m, m = 64 * n := ⟨_, rfl⟩
    have HT : Hid (∀ wx, Below w.heap.size w wx → w.heap.size + 1 < wx.heap.size → Calls Tryd.prog 20 #[.slice (some ⟨b0, off, none⟩) zs.length cap, .string (s.extract 0 m)] wx fun e w' => ∃ g, e = .returned (.slice (some ⟨g, 0, none⟩) 8 8) ∧ OwnS w' g (list8 (after (fn zs) s n)) ∧ w.heap.size + 1 < g ∧ Below wx.heap.size wx w') :=
      mkHid (fun wx hb hlt => by
        have h := take_any b0 off cap (fn zs) (s.extract 0 m) n wx (by simp; omega) (by simp; omega) (rd_fn (hr.below hb) h8) (hG.at hb)
        rw [h8]
        refine h.mono ?_
        rintro e w' ⟨g, rfl, hg, hrow, hb'⟩
        refine ⟨g, rfl, ?_, by omega, hb'⟩
        have e : list8 (after (fn zs) s n) = list8 (st (fn zs) (s.extract 0 m) n) := by
          unfold list8
          apply List.map_congr_left
          intro i hi
          rw [List.mem_range] at hi
          unfold st
          rw [hm, after_pre (fn zs) s n n (Nat.le_refl _), after_bd (fn zs) s (fn_bd hR1) n i hi]
        rw [e]
        exact row_own hrow)
    have HS : Hid (∀ wx, Calls Tryd.prog 24 #[.string (s.extract m s.size)] wx fun e w' => e = .returned (.string (rest s)) ∧ Below wx.heap.size wx w') := mkHid (fun wx => by
      have h := clone.clone_any (s.extract m s.size) wx (by simp; omega)
      have e : s.extract m s.size = rest s := by unfold rest; rw [hm, hn]
      rw [e] at h ⊢
      exact h)
    have EE : Hid (moreH zs r size t = (list8 (after (fn zs) s n), rest s, size + t.size)) := mkHid (by rw [HE.out, if_neg (by simp [hR1]; omega), hsE, hn, hsE])
    have hms : m ≤ s.size := by omega
    have hmw : (s.size : Int) - (s.size : Int) % 64 = (m : Int) := by omega
    have hsi : (s.size : Int) ≤ 20064 := by omega
    have HSE := mkHid hsE
    have hr8 : (r.size : Int) + (t.size : Int) = (s.size : Int) := by omega
    have hsl1 : ∀ wx, (Instr.slice 9 (.string s) none (some (.int .i64 (m : Int))) none).run Tryd.prog wx = .ok (.string (s.extract 0 m)) wx := fun wx => by
      rw [run_slice_string_to_if wx 9 s .i64 (m : Int) Tryd.underlying9, if_pos ⟨by omega, by omega⟩]
      rfl
    have hsl2 : ∀ wx, (Instr.slice 9 (.string s) (some (.int .i64 (m : Int))) none none).run Tryd.prog wx = .ok (.string (s.extract m s.size)) wx := fun wx => by
      rw [run_slice_string_from_if wx 9 s .i64 (m : Int) Tryd.underlying9, if_pos ⟨by omega, by omega⟩]
      rfl
    have hmi : (m : Int) ≤ 20064 := by omega
    rw [EE.out]
    have hzz := list8_len (after (fn zs) s n)
    generalize list8 (after (fn zs) s n) = zz at *
    generalize rest s = rr at *
    have HR1 := mkHid hR1
    clear EE HCp HE hn hm hsE hr hR1 hr64 hrl hss h8 hG hb0
    unfold sha.hash
    go_enter Tryd.func15, Tryd.ntmps15
    go_wp2_with fail
    refine (HRt.out _ (below_alloc2 w _ _)).mono ?_
    rintro e w1 ⟨rfl, hb1⟩
    rw [HR1.out]
    have S1 : Hid (Cp w (.cells #[.slice (some ⟨b0, off, none⟩) zs.length cap, .string r, .int .i64 size] 28) w1) :=
      mkHid ((⟨below_alloc2 w _ _, blk_old (blk_new w _ _ rfl) _, blk_new _ _ _ (by simp)⟩ : Cp w (.cells #[.slice (some ⟨b0, off, none⟩) zs.length cap, .string r, .int .i64 size] 28) ((w.alloc (.cells #[.slice (some ⟨b0, off, none⟩) zs.length cap, .string r, .int .i64 size] 28)).alloc sha.zeroH)).next hb1)
    have c0 : w1.cell? ⟨w.heap.size, 0, none⟩ = some (.slice (some ⟨b0, off, none⟩) zs.length cap) := cell_of_block S1.out.bx 0
    have c1 : w1.cell? ⟨w.heap.size, 1, none⟩ = some (.string r) := cell_of_block S1.out.bx 1
    have c2 : w1.cell? ⟨w.heap.size, 2, none⟩ = some (.int .i64 size) := cell_of_block S1.out.bx 2
    have hWl : w.heap.size + 1 < w1.heap.size := (Array.getElem?_eq_some_iff.1 S1.out.res).1
    clear hb1
    go_wp2
    rw [← HSE.out]
    go_region_held3 (fun w' => w'.cell? ⟨w.heap.size, 0, none⟩ = some (.slice (some ⟨b0, off, none⟩) zs.length cap)) (go_keep)
      ((first
        | (go_at_call 20; refine Calls.mono (HT.out _ (by first | exact S1.out.below | exact S1.out.below.drew) (by exact hWl)) ?_; rintro e w2 ⟨g, rfl, hO2, hg2, hb2⟩; have S2 := mkHid (S1.out.next (re hb2 rfl rfl rfl rfl)); have OO2 := mkHid (And.intro hO2 hg2); have a0 : w2.cell? ⟨w.heap.size, 0, none⟩ = some (.slice (some ⟨b0, off, none⟩) zs.length cap) := cell_of_block S2.out.bx 0; clear hO2 hg2 hb2)
        | (go_at_call 24; refine Calls.mono (HS.out _) ?_; rintro e w3 ⟨rfl, hb3⟩; have S3 := mkHid (S2.out.next (re hb3 rfl rfl rfl rfl)); have OO3 := mkHid (And.intro (OO2.out.1.below (re hb3 rfl rfl rfl rfl)) OO2.out.2); have d0 : w3.cell? ⟨w.heap.size, 0, none⟩ = some (.slice (some ⟨b0, off, none⟩) zs.length cap) := cell_of_block S3.out.bx 0; have br0 : w3.cell? ⟨w.heap.size + 1, 0, none⟩ = some (.slice none 0 0) := cell_of_block S3.out.res 0; have br1 : w3.cell? ⟨w.heap.size + 1, 1, none⟩ = some (.string ⟨#[]⟩) := cell_of_block S3.out.res 1; have br2 : w3.cell? ⟨w.heap.size + 1, 2, none⟩ = some (.int .i64 0) := cell_of_block S3.out.res 2; have brf : ∀ j, w3.frozen? ⟨w.heap.size + 1, j, none⟩ = false := unfrozen_of_block S3.out.res; clear hb3)))
    go_wp2
    exact bodyPost_ret (v := sha.hash (some ⟨g, 0, none⟩) 8 8 rr (size + t.size)) (by simp [results, Tryd.results15, go_sem, br0, br1, br2, sha.hash]) rfl (ipost_set rfl hzz OO3.out.1 OO3.out.2 S3.out.below _ _ _)
  · have EE : Hid (moreH zs r size t = (zs, r, size)) := mkHid (by
      rw [HE.out, if_pos (by
        cases hq : hRight zs r size
        · exact .inl rfl
        · exact .inr (Int.not_le.1 (fun h2 => hR ⟨hq, h2⟩)))])
    rw [EE.out]
    clear hG hr hb0
    have hR' : hRight zs r size = false ∨ (hRight zs r size = true ∧ 0 ≤ size ∧ size ≤ 1099511627776 ∧ 1099511627776 < size + t.size) := by
      cases hq : hRight zs r size
      · exact .inl rfl
      · obtain ⟨_, a, b, _, _⟩ := hRight_parts hq
        exact .inr ⟨rfl, a, b, Int.not_le.1 (fun h2 => hR ⟨hq, h2⟩)⟩
    unfold sha.hash
    go_enter Tryd.func15, Tryd.ntmps15
    rcases hR' with hq | ⟨hq, hz0, hz1, hz2⟩
    · have HQ := mkHid hq
      clear EE HE hR hq
      go_wp2_with fail
      refine (HRt.out _ (below_alloc2 w _ _)).mono ?_
      rintro e w1 ⟨rfl, hb1⟩
      rw [HQ.out]
      have S1 : Hid (Cp w (.cells #[.slice (some ⟨b0, off, none⟩) zs.length cap, .string r, .int .i64 size] 28) w1) :=
        mkHid ((⟨below_alloc2 w _ _, blk_old (blk_new w _ _ rfl) _, blk_new _ _ _ (by simp)⟩ : Cp w (.cells #[.slice (some ⟨b0, off, none⟩) zs.length cap, .string r, .int .i64 size] 28) ((w.alloc (.cells #[.slice (some ⟨b0, off, none⟩) zs.length cap, .string r, .int .i64 size] 28)).alloc sha.zeroH)).next hb1)
      have c0 : w1.cell? ⟨w.heap.size, 0, none⟩ = some (.slice (some ⟨b0, off, none⟩) zs.length cap) := cell_of_block S1.out.bx 0
      have c1 : w1.cell? ⟨w.heap.size, 1, none⟩ = some (.string r) := cell_of_block S1.out.bx 1
      have c2 : w1.cell? ⟨w.heap.size, 2, none⟩ = some (.int .i64 size) := cell_of_block S1.out.bx 2
      have hWl : w.heap.size + 1 < w1.heap.size := (Array.getElem?_eq_some_iff.1 S1.out.res).1
      clear hb1
      go_wp2_with fail
      refine (HCp.out _ S1.out.below).mono ?_
      rintro e w2 ⟨a, c, rfl, hO2, hF2, hb2⟩
      have S2 := mkHid (S1.out.next hb2)
      have br0 : w2.cell? ⟨w.heap.size + 1, 0, none⟩ = some (.slice none 0 0) := cell_of_block S2.out.res 0
      have br1 : w2.cell? ⟨w.heap.size + 1, 1, none⟩ = some (.string ⟨#[]⟩) := cell_of_block S2.out.res 1
      have br2 : w2.cell? ⟨w.heap.size + 1, 2, none⟩ = some (.int .i64 0) := cell_of_block S2.out.res 2
      have brf : ∀ j, w2.frozen? ⟨w.heap.size + 1, j, none⟩ = false := unfrozen_of_block S2.out.res
      have OO := mkHid (And.intro hO2 (show ∀ b o s, a = some ⟨b, o, s⟩ → w.heap.size + 1 < b from fun b o s e => by have := hF2 b o s e; omega))
      clear hO2 hF2 hb2
      unfold sha.hash
      go_wp2
      exact bodyPost_ret (v := sha.hash a zs.length c r size) (by simp [results, Tryd.results15, go_sem, br0, br1, br2, sha.hash]) rfl (ipost_put OO.out.1 OO.out.2 S2.out.below _ _ _)
    · have HQ := mkHid hq
      clear EE HE hR hq
      go_wp2_with fail
      refine (HRt.out _ (below_alloc2 w _ _)).mono ?_
      rintro e w1 ⟨rfl, hb1⟩
      rw [HQ.out]
      have S1 : Hid (Cp w (.cells #[.slice (some ⟨b0, off, none⟩) zs.length cap, .string r, .int .i64 size] 28) w1) :=
        mkHid ((⟨below_alloc2 w _ _, blk_old (blk_new w _ _ rfl) _, blk_new _ _ _ (by simp)⟩ : Cp w (.cells #[.slice (some ⟨b0, off, none⟩) zs.length cap, .string r, .int .i64 size] 28) ((w.alloc (.cells #[.slice (some ⟨b0, off, none⟩) zs.length cap, .string r, .int .i64 size] 28)).alloc sha.zeroH)).next hb1)
      have c0 : w1.cell? ⟨w.heap.size, 0, none⟩ = some (.slice (some ⟨b0, off, none⟩) zs.length cap) := cell_of_block S1.out.bx 0
      have c1 : w1.cell? ⟨w.heap.size, 1, none⟩ = some (.string r) := cell_of_block S1.out.bx 1
      have c2 : w1.cell? ⟨w.heap.size, 2, none⟩ = some (.int .i64 size) := cell_of_block S1.out.bx 2
      have hWl : w.heap.size + 1 < w1.heap.size := (Array.getElem?_eq_some_iff.1 S1.out.res).1
      clear hb1
      go_wp2_with fail
      refine (HCp.out _ S1.out.below).mono ?_
      rintro e w2 ⟨a, c, rfl, hO2, hF2, hb2⟩
      have S2 := mkHid (S1.out.next hb2)
      have br0 : w2.cell? ⟨w.heap.size + 1, 0, none⟩ = some (.slice none 0 0) := cell_of_block S2.out.res 0
      have br1 : w2.cell? ⟨w.heap.size + 1, 1, none⟩ = some (.string ⟨#[]⟩) := cell_of_block S2.out.res 1
      have br2 : w2.cell? ⟨w.heap.size + 1, 2, none⟩ = some (.int .i64 0) := cell_of_block S2.out.res 2
      have brf : ∀ j, w2.frozen? ⟨w.heap.size + 1, j, none⟩ = false := unfrozen_of_block S2.out.res
      have OO := mkHid (And.intro hO2 (show ∀ b o s, a = some ⟨b, o, s⟩ → w.heap.size + 1 < b from fun b o s e => by have := hF2 b o s e; omega))
      clear hO2 hF2 hb2
      unfold sha.hash
      go_wp2
      exact bodyPost_ret (v := sha.hash a zs.length c r size) (by simp [results, Tryd.results15, go_sem, br0, br1, br2, sha.hash]) rfl (ipost_put OO.out.1 OO.out.2 S2.out.below _ _ _)
end Go.Proofs.YtaepdmeghfbngaaDoor.himpl
