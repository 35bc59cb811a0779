/-
  What impl.HashMore answers and leaves. Conditions: at most 1,048,576 numbers, which lie in memory; at most 1,048,576 bytes each; the numbers of the rounds are there.
  What impl.appendHighFirst and impl.padding answer and leave. Conditions: a row of bytes of our own, at most 992; one to eight bytes of a number of int64; a size of 0 to 2^40.
  What impl.HashEnd answers and leaves. Conditions: at most 1,048,576 numbers, which lie in memory; at most 1,048,576 bytes; the numbers of the rounds are there.
  What impl.HashBegin answers and leaves. No condition.
-/
import Derived.Test.YtppjbmmeacmoiaaDoorHImpl
import Derived.Test.YtppjbmmeacmoiaaDoorZShaE
import Derived.Test.YtppjbmmeacmoiaaDoorZShaF
import Derived.Test.YtppjbmmeacmoiaaDoorEndP
import Derived.Test.YtppjbmmeacmoiaaDoorHImplB
namespace Go.Proofs.YtppjbmmeacmoiaaDoor.himpl
open Go.RowKit Go.Joins
open Go.Proofs.YtppjbmmeacmoiaaDoor.base Go.Proofs.YtppjbmmeacmoiaaDoor.ints Go.Proofs.YtppjbmmeacmoiaaDoor.blk
open Go.Proofs.YtppjbmmeacmoiaaDoor.sha (hRight endH digest short moreH startL GV after rest fn list8 list8_len rd_fn hRight_parts rowF)
open Go.Proofs.YtppjbmmeacmoiaaDoor.shaI (take_any after_bd st)
set_option linter.unusedVariables false

theorem row_own {w : World} {g : Nat} {f : Nat → Int} (h : w.heap[g]? = some (rowF .i64 2 8 f)) : OwnS w g (list8 f) := OwnS.of (by
  unfold Own
  rw [h]
  unfold sha.rowF sha.list8
  rw [List.map_map]
  rfl)
theorem ipost_put {w W : World} {a : Option Addr} {c : Nat} {zs : List Int} {r : ByteArray} {sz : Int} (hr : OwnV W a zs) (hge : ∀ b o s, a = some ⟨b, o, s⟩ → w.heap.size + 1 < b) (hb : Below w.heap.size w W) (x0 x1 x2 : Value) :
    IPost w (zs, r, sz) (.returned (sha.hash a zs.length c r sz)) (((W.setCell ⟨w.heap.size + 1, 0, none⟩ x0).setCell ⟨w.heap.size + 1, 1, none⟩ x1).setCell ⟨w.heap.size + 1, 2, none⟩ x2) := by
  refine ⟨a, c, rfl, ?_, fun b o s e => by have := hge b o s e; omega, ((hb.setCell (by simp) _).setCell (by simp) _).setCell (by simp) _⟩
  rcases hr with ⟨rfl, rfl⟩ | ⟨g, rfl, ho⟩
  · exact .inl ⟨rfl, rfl⟩
  · have := hge g 0 none rfl
    exact .inr ⟨g, rfl, ((ho.other _ _ (by simp; omega)).other _ _ (by simp; omega)).other _ _ (by simp; omega)⟩
theorem pre_block (s : ByteArray) (n j : Nat) (hj : j < n) : (s.extract 0 (64 * n)).extract (64 * j) (64 * j + 64) = s.extract (64 * j) (64 * j + 64) := by
  apply ByteArray.ext
  simp
  congr 1
  omega
theorem after_pre (z : Nat → Int) (s : ByteArray) (n : Nat) : ∀ k, k ≤ n → after z (s.extract 0 (64 * n)) k = after z s k := by
  intro k
  induction k with
  | zero => intro _; rfl
  | succ k ih =>
    intro hk
    show sha.block (after z (s.extract 0 (64 * n)) k) (sha.wordAt ((s.extract 0 (64 * n)).extract (64 * k) (64 * k + 64))) = sha.block (after z s k) (sha.wordAt (s.extract (64 * k) (64 * k + 64)))
    rw [ih (by omega), pre_block s n k (by omega)]
theorem fn_bd {zs : List Int} {r : ByteArray} {size : Int} (h : hRight zs r size = true) : ∀ i, i < 8 → 0 ≤ fn zs i ∧ fn zs i ≤ 4294967295 := by
  intro i hi
  have h8 := (hRight_parts h).1
  unfold hRight at h
  simp only [Bool.and_eq_true, List.all_eq_true] at h
  obtain ⟨z, hz⟩ : ∃ z, zs[i]? = some z := ⟨_, List.getElem?_eq_getElem (by omega)⟩
  have hu := h.2 z (List.mem_of_getElem? hz)
  simp [sha.u32B] at hu
  unfold fn
  simp [List.getD, hz]
  omega

set_option maxRecDepth 100000 in
set_option maxHeartbeats 1000000 in
theorem more_any : IMore := by
  intro b0 off cap zs r t size w hl hr hb0 hrs hts hs0 hs1 hG
  by_cases h1 : 20000 < (t.size : Int)
  · have E : moreH zs r size t = ([], ⟨#[]⟩, 0) := by unfold moreH; rw [if_pos (by omega)]
    rw [E]
    clear E
    unfold sha.hash
    go_enter Tryd.func79, Tryd.ntmps79
    go_wp2
    refine bodyPost_ret (v := sha.hash none 0 0 ⟨#[]⟩ 0) (by simp [results, Tryd.results79, go_sem, sha.hash]) rfl ⟨none, 0, rfl, .inl ⟨rfl, rfl⟩, fun b o s e => by simp at e, ?_⟩
    first | exact below_alloc2 w _ _ | exact (((below_alloc2 w _ _).setCell (by simp) _).setCell (by simp) _).setCell (by simp) _
  have h1' : (t.size : Int) ≤ 20000 := by omega
  have HRt : Hid (∀ wx, Below w.heap.size w wx → Calls Tryd.prog 85 #[.agg #[.slice (some ⟨b0, off, none⟩) zs.length cap, .string r, .int .i64 size]] wx fun e w' => e = .returned (.bool (hRight zs r size)) ∧ Below wx.heap.size wx w') :=
    mkHid (fun wx hb => right_any b0 off cap zs r size wx hl (hr.below hb) hrs hs0 hs1)
  have HCp : Hid (∀ wx, Below w.heap.size w wx → Calls Tryd.prog 89 #[.agg #[.slice (some ⟨b0, off, none⟩) zs.length cap, .string r, .int .i64 size]] wx fun e w' => IPost wx (zs, r, size) e w') :=
    mkHid (fun wx hb => copy_any b0 off cap zs r size wx hl (hr.below hb) hrs)
  have HE := mkHid (show moreH zs r size t = if hRight zs r size = false ∨ 1099511627776 < size + t.size then (zs, r, size) else (list8 (after (fn zs) (r ++ t) ((r ++ t).size / 64)), rest (r ++ t), size + t.size) by unfold moreH; rw [if_neg (by omega)])
  by_cases hR : hRight zs r size = true ∧ size + t.size ≤ 1099511627776
  · obtain ⟨hR1, hR2⟩ := hR
    obtain ⟨h8, hz0, hz1, hr64, hrl⟩ := hRight_parts hR1
    obtain ⟨s, hsE⟩ : ∃ s, s = r ++ t := ⟨_, rfl⟩
    have hss : s.size = r.size + t.size := by rw [hsE]; simp
    obtain ⟨n, hn⟩ : ∃ n, n = s.size / 64 := ⟨_, rfl⟩
    obtain ⟨m, hm⟩ : ∃ m, m = 64 * n := ⟨_, rfl⟩
    have HT : Hid (∀ wx, Below w.heap.size w wx → w.heap.size + 1 < wx.heap.size → Calls Tryd.prog 86 #[.slice (some ⟨b0, off, none⟩) zs.length cap, .string (s.extract 0 m)] wx fun e w' => ∃ g, e = .returned (.slice (some ⟨g, 0, none⟩) 8 8) ∧ OwnS w' g (list8 (after (fn zs) s n)) ∧ w.heap.size + 1 < g ∧ Below wx.heap.size wx w') :=
      mkHid (fun wx hb hlt => by
        have h := take_any b0 off cap (fn zs) (s.extract 0 m) n wx (by simp; omega) (by simp; omega) (rd_fn (hr.below hb) h8) (hG.at hb)
        rw [h8]
        refine h.mono ?_
        rintro e w' ⟨g, rfl, hg, hrow, hb'⟩
        refine ⟨g, rfl, ?_, by omega, hb'⟩
        have e : list8 (after (fn zs) s n) = list8 (st (fn zs) (s.extract 0 m) n) := by
          unfold list8
          apply List.map_congr_left
          intro i hi
          rw [List.mem_range] at hi
          unfold st
          rw [hm, after_pre (fn zs) s n n (Nat.le_refl _), after_bd (fn zs) s (fn_bd hR1) n i hi]
        rw [e]
        exact row_own hrow)
    have HS : Hid (∀ wx, Calls Tryd.prog 35 #[.string (s.extract m s.size)] wx fun e w' => e = .returned (.string (rest s)) ∧ Below wx.heap.size wx w') := mkHid (fun wx => by
      have h := clone.clone_any (s.extract m s.size) wx (by simp; omega)
      have e : s.extract m s.size = rest s := by unfold rest; rw [hm, hn]
      rw [e] at h ⊢
      exact h)
    have EE : Hid (moreH zs r size t = (list8 (after (fn zs) s n), rest s, size + t.size)) := mkHid (by rw [HE.out, if_neg (by simp [hR1]; omega), hsE, hn, hsE])
    have hms : m ≤ s.size := by omega
    have hmw : (s.size : Int) - (s.size : Int) % 64 = (m : Int) := by omega
    have hsi : (s.size : Int) ≤ 20064 := by omega
    have HSE := mkHid hsE
    have hr8 : (r.size : Int) + (t.size : Int) = (s.size : Int) := by omega
    have hsl1 : ∀ wx, (Instr.slice 9 (.string s) none (some (.int .i64 (m : Int))) none).run Tryd.prog wx = .ok (.string (s.extract 0 m)) wx := fun wx => by
      rw [run_slice_string_to_if wx 9 s .i64 (m : Int) Tryd.underlying9, if_pos ⟨by omega, by omega⟩]
      rfl
    have hsl2 : ∀ wx, (Instr.slice 9 (.string s) (some (.int .i64 (m : Int))) none none).run Tryd.prog wx = .ok (.string (s.extract m s.size)) wx := fun wx => by
      rw [run_slice_string_from_if wx 9 s .i64 (m : Int) Tryd.underlying9, if_pos ⟨by omega, by omega⟩]
      rfl
    have hmi : (m : Int) ≤ 20064 := by omega
    rw [EE.out]
    have hzz := list8_len (after (fn zs) s n)
    generalize list8 (after (fn zs) s n) = zz at *
    generalize rest s = rr at *
    have HR1 := mkHid hR1
    clear EE HCp HE hn hm hsE hr hR1 hr64 hrl hss h8 hG hb0
    unfold sha.hash
    go_enter Tryd.func79, Tryd.ntmps79
    go_wp2_with fail
    refine (HRt.out _ (below_alloc2 w _ _)).mono ?_
    rintro e w1 ⟨rfl, hb1⟩
    rw [HR1.out]
    have S1 : Hid (Cp w (.cells #[.slice (some ⟨b0, off, none⟩) zs.length cap, .string r, .int .i64 size] 102) w1) :=
      mkHid ((⟨below_alloc2 w _ _, blk_old (blk_new w _ _ rfl) _, blk_new _ _ _ (by simp)⟩ : Cp w (.cells #[.slice (some ⟨b0, off, none⟩) zs.length cap, .string r, .int .i64 size] 102) ((w.alloc (.cells #[.slice (some ⟨b0, off, none⟩) zs.length cap, .string r, .int .i64 size] 102)).alloc sha.zeroH)).next hb1)
    have c0 : w1.cell? ⟨w.heap.size, 0, none⟩ = some (.slice (some ⟨b0, off, none⟩) zs.length cap) := cell_of_block S1.out.bx 0
    have c1 : w1.cell? ⟨w.heap.size, 1, none⟩ = some (.string r) := cell_of_block S1.out.bx 1
    have c2 : w1.cell? ⟨w.heap.size, 2, none⟩ = some (.int .i64 size) := cell_of_block S1.out.bx 2
    have hWl : w.heap.size + 1 < w1.heap.size := (Array.getElem?_eq_some_iff.1 S1.out.res).1
    clear hb1
    go_wp2
    rw [← HSE.out]
    go_region_held3 (fun w' => w'.cell? ⟨w.heap.size, 0, none⟩ = some (.slice (some ⟨b0, off, none⟩) zs.length cap)) (go_keep)
      ((first
        | (go_at_call 86; refine Calls.mono (HT.out _ (by first | exact S1.out.below | exact S1.out.below.drew) (by exact hWl)) ?_; rintro e w2 ⟨g, rfl, hO2, hg2, hb2⟩; have S2 := mkHid (S1.out.next (re hb2 rfl rfl rfl rfl)); have OO2 := mkHid (And.intro hO2 hg2); have a0 : w2.cell? ⟨w.heap.size, 0, none⟩ = some (.slice (some ⟨b0, off, none⟩) zs.length cap) := cell_of_block S2.out.bx 0; clear hO2 hg2 hb2)
        | (go_at_call 35; refine Calls.mono (HS.out _) ?_; rintro e w3 ⟨rfl, hb3⟩; have S3 := mkHid (S2.out.next (re hb3 rfl rfl rfl rfl)); have OO3 := mkHid (And.intro (OO2.out.1.below (re hb3 rfl rfl rfl rfl)) OO2.out.2); have d0 : w3.cell? ⟨w.heap.size, 0, none⟩ = some (.slice (some ⟨b0, off, none⟩) zs.length cap) := cell_of_block S3.out.bx 0; have br0 : w3.cell? ⟨w.heap.size + 1, 0, none⟩ = some (.slice none 0 0) := cell_of_block S3.out.res 0; have br1 : w3.cell? ⟨w.heap.size + 1, 1, none⟩ = some (.string ⟨#[]⟩) := cell_of_block S3.out.res 1; have br2 : w3.cell? ⟨w.heap.size + 1, 2, none⟩ = some (.int .i64 0) := cell_of_block S3.out.res 2; have brf : ∀ j, w3.frozen? ⟨w.heap.size + 1, j, none⟩ = false := unfrozen_of_block S3.out.res; clear hb3)))
    go_wp2
    exact bodyPost_ret (v := sha.hash (some ⟨g, 0, none⟩) 8 8 rr (size + t.size)) (by simp [results, Tryd.results79, go_sem, br0, br1, br2, sha.hash]) rfl (ipost_set rfl hzz OO3.out.1 OO3.out.2 S3.out.below _ _ _)
  · have EE : Hid (moreH zs r size t = (zs, r, size)) := mkHid (by
      rw [HE.out, if_pos (by
        cases hq : hRight zs r size
        · exact .inl rfl
        · exact .inr (Int.not_le.1 (fun h2 => hR ⟨hq, h2⟩)))])
    rw [EE.out]
    clear hG hr hb0
    have hR' : hRight zs r size = false ∨ (hRight zs r size = true ∧ 0 ≤ size ∧ size ≤ 1099511627776 ∧ 1099511627776 < size + t.size) := by
      cases hq : hRight zs r size
      · exact .inl rfl
      · obtain ⟨_, a, b, _, _⟩ := hRight_parts hq
        exact .inr ⟨rfl, a, b, Int.not_le.1 (fun h2 => hR ⟨hq, h2⟩)⟩
    unfold sha.hash
    go_enter Tryd.func79, Tryd.ntmps79
    rcases hR' with hq | ⟨hq, hz0, hz1, hz2⟩
    · have HQ := mkHid hq
      clear EE HE hR hq
      go_wp2_with fail
      refine (HRt.out _ (below_alloc2 w _ _)).mono ?_
      rintro e w1 ⟨rfl, hb1⟩
      rw [HQ.out]
      have S1 : Hid (Cp w (.cells #[.slice (some ⟨b0, off, none⟩) zs.length cap, .string r, .int .i64 size] 102) w1) :=
        mkHid ((⟨below_alloc2 w _ _, blk_old (blk_new w _ _ rfl) _, blk_new _ _ _ (by simp)⟩ : Cp w (.cells #[.slice (some ⟨b0, off, none⟩) zs.length cap, .string r, .int .i64 size] 102) ((w.alloc (.cells #[.slice (some ⟨b0, off, none⟩) zs.length cap, .string r, .int .i64 size] 102)).alloc sha.zeroH)).next hb1)
      have c0 : w1.cell? ⟨w.heap.size, 0, none⟩ = some (.slice (some ⟨b0, off, none⟩) zs.length cap) := cell_of_block S1.out.bx 0
      have c1 : w1.cell? ⟨w.heap.size, 1, none⟩ = some (.string r) := cell_of_block S1.out.bx 1
      have c2 : w1.cell? ⟨w.heap.size, 2, none⟩ = some (.int .i64 size) := cell_of_block S1.out.bx 2
      have hWl : w.heap.size + 1 < w1.heap.size := (Array.getElem?_eq_some_iff.1 S1.out.res).1
      clear hb1
      go_wp2_with fail
      refine (HCp.out _ S1.out.below).mono ?_
      rintro e w2 ⟨a, c, rfl, hO2, hF2, hb2⟩
      have S2 := mkHid (S1.out.next hb2)
      have br0 : w2.cell? ⟨w.heap.size + 1, 0, none⟩ = some (.slice none 0 0) := cell_of_block S2.out.res 0
      have br1 : w2.cell? ⟨w.heap.size + 1, 1, none⟩ = some (.string ⟨#[]⟩) := cell_of_block S2.out.res 1
      have br2 : w2.cell? ⟨w.heap.size + 1, 2, none⟩ = some (.int .i64 0) := cell_of_block S2.out.res 2
      have brf : ∀ j, w2.frozen? ⟨w.heap.size + 1, j, none⟩ = false := unfrozen_of_block S2.out.res
      have OO := mkHid (And.intro hO2 (show ∀ b o s, a = some ⟨b, o, s⟩ → w.heap.size + 1 < b from fun b o s e => by have := hF2 b o s e; omega))
      clear hO2 hF2 hb2
      unfold sha.hash
      go_wp2
      exact bodyPost_ret (v := sha.hash a zs.length c r size) (by simp [results, Tryd.results79, go_sem, br0, br1, br2, sha.hash]) rfl (ipost_put OO.out.1 OO.out.2 S2.out.below _ _ _)
    · have HQ := mkHid hq
      clear EE HE hR hq
      go_wp2_with fail
      refine (HRt.out _ (below_alloc2 w _ _)).mono ?_
      rintro e w1 ⟨rfl, hb1⟩
      rw [HQ.out]
      have S1 : Hid (Cp w (.cells #[.slice (some ⟨b0, off, none⟩) zs.length cap, .string r, .int .i64 size] 102) w1) :=
        mkHid ((⟨below_alloc2 w _ _, blk_old (blk_new w _ _ rfl) _, blk_new _ _ _ (by simp)⟩ : Cp w (.cells #[.slice (some ⟨b0, off, none⟩) zs.length cap, .string r, .int .i64 size] 102) ((w.alloc (.cells #[.slice (some ⟨b0, off, none⟩) zs.length cap, .string r, .int .i64 size] 102)).alloc sha.zeroH)).next hb1)
      have c0 : w1.cell? ⟨w.heap.size, 0, none⟩ = some (.slice (some ⟨b0, off, none⟩) zs.length cap) := cell_of_block S1.out.bx 0
      have c1 : w1.cell? ⟨w.heap.size, 1, none⟩ = some (.string r) := cell_of_block S1.out.bx 1
      have c2 : w1.cell? ⟨w.heap.size, 2, none⟩ = some (.int .i64 size) := cell_of_block S1.out.bx 2
      have hWl : w.heap.size + 1 < w1.heap.size := (Array.getElem?_eq_some_iff.1 S1.out.res).1
      clear hb1
      go_wp2_with fail
      refine (HCp.out _ S1.out.below).mono ?_
      rintro e w2 ⟨a, c, rfl, hO2, hF2, hb2⟩
      have S2 := mkHid (S1.out.next hb2)
      have br0 : w2.cell? ⟨w.heap.size + 1, 0, none⟩ = some (.slice none 0 0) := cell_of_block S2.out.res 0
      have br1 : w2.cell? ⟨w.heap.size + 1, 1, none⟩ = some (.string ⟨#[]⟩) := cell_of_block S2.out.res 1
      have br2 : w2.cell? ⟨w.heap.size + 1, 2, none⟩ = some (.int .i64 0) := cell_of_block S2.out.res 2
      have brf : ∀ j, w2.frozen? ⟨w.heap.size + 1, j, none⟩ = false := unfrozen_of_block S2.out.res
      have OO := mkHid (And.intro hO2 (show ∀ b o s, a = some ⟨b, o, s⟩ → w.heap.size + 1 < b from fun b o s e => by have := hF2 b o s e; omega))
      clear hO2 hF2 hb2
      unfold sha.hash
      go_wp2
      exact bodyPost_ret (v := sha.hash a zs.length c r size) (by simp [results, Tryd.results79, go_sem, br0, br1, br2, sha.hash]) rfl (ipost_put OO.out.1 OO.out.2 S2.out.below _ _ _)
end Go.Proofs.YtppjbmmeacmoiaaDoor.himpl
namespace Go.Proofs.YtppjbmmeacmoiaaDoor.shaI
open Go.RowKit Go.Joins
open Go.Proofs.YtppjbmmeacmoiaaDoor.base Go.Proofs.YtppjbmmeacmoiaaDoor.word Go.Proofs.YtppjbmmeacmoiaaDoor.ints Go.Proofs.YtppjbmmeacmoiaaDoor.blk
open Go.Proofs.YtppjbmmeacmoiaaDoor.sha (by8 by8_val appSem app_fold appB gap pad pad_len lenB lenB_len tail gap_lt infoB)
set_option linter.unusedVariables false
attribute [local go_sem ↓] app_fold

/-- the first k of so many bytes of a number, the highest first -/
def highL (x : Int) (size k : Nat) : List UInt8 := (List.range k).map fun q => by8 x (2 ^ (8 * (size - 1 - q)))
theorem highL_next (x : Int) (size k : Nat) : highL x size k ++ [by8 x (2 ^ (8 * (size - 1 - k)))] = highL x size (k + 1) := by unfold highL; rw [List.range_succ, List.map_append]; rfl
theorem highL_len (x : Int) (size k : Nat) : (highL x size k).length = k := by simp [highL]
theorem high8 (size : Int) : highL (8 * size) 8 8 = lenB size 8 := by
  unfold highL lenB
  apply List.map_congr_left
  intro q hq
  rw [List.mem_range] at hq
  rw [show 8 * (8 - 1 - q) = 56 - 8 * q by omega]

/-- bytes that are gathered -/
structure Hi (base : Nat) (w : World) (va : Option Addr) (n vc : Nat) (acc : List UInt8) (wr : World) : Prop where
  own : wr.ownsRow base 5 1 (.slice va n vc) n (acc.map byteV)
  len : acc.length = n
  below : Below base w wr
  hb : base ≤ w.heap.size
theorem Hi.app {base : Nat} {w wr : World} {va : Option Addr} {n vc : Nat} {acc : List UInt8} (h : Hi base w va n vc acc wr) (b : UInt8) (hl : n + 1 ≤ 1000) :
    ∃ g c w2, (appSem #[51, 51] 51 #[.slice va n vc, .slice (some ⟨wr.heap.size, 0, none⟩) 1 1]).run Tryd.prog (wr.alloc (.cells #[byteV b] 5)) = .ok (.slice (some ⟨g, 0, none⟩) (n + 1) c) w2 ∧ Hi base w (some ⟨g, 0, none⟩) (n + 1) c (acc ++ [b]) w2 := by
  have hb := h.hb
  have hs := h.below.size
  obtain ⟨g, c, w2, hrun, hown, hgr⟩ := appB (wr.alloc (.cells #[byteV b] 5)) _ (.inl rfl) base wr.heap.size (.slice va n vc) n 1 acc [b] h.len rfl (by omega) (h.own.alloc _) (by simp; omega) (heap_alloc_new wr _) hl
  refine ⟨g, c, w2, hrun, ⟨hown, by rw [List.length_append, h.len]; rfl, ?_, hb⟩⟩
  exact (h.below.alloc (by omega) _).grown hgr (by simp; omega) (fun k hk => (h.own.lt k hk).1)

set_option maxRecDepth 100000 in
set_option maxHeartbeats 1000000 in
theorem high_any (base : Nat) (va : Option Addr) (n vc : Nat) (acc : List UInt8) (x : Int) (size : Nat) (w : World) (hs : size ≤ 8) (hl : n + 8 ≤ 1000) (h : Hi base w va n vc acc w) :
    Calls Tryd.prog 88 #[.slice va n vc, .int .i64 x, .int .i64 size] w fun e w' => ∃ va' vc', e = .returned (.slice va' (n + size) vc') ∧ Hi base w va' (n + size) vc' (acc ++ highL x size size) w' := by
  have H0 := mkHid h
  clear h
  have hsi : (size : Int) ≤ 8 := by omega
  have hli : (n : Int) + 8 ≤ 1000 := by omega
  go_enter Tryd.func88, Tryd.ntmps88
  go_wp2
  go_loopw [0, 9] (fun v i wr => ∃ (k m : Nat) (a : Option Addr) (c : Nat), k ≤ size ∧ i = .int .i64 k ∧ v = .slice a m c ∧ Hid (m = n + k) ∧ Hid (Hi base w a m c (acc ++ highL x size k) wr))
    (fun _ i _ => size - (intOf i).toNat)
  case atStart => exact ⟨0, n, va, vc, Nat.zero_le _, rfl, rfl, mkHid rfl, mkHid (by have h := H0.out; simpa [highL] using h)⟩
  case round =>
    clear H0
    obtain ⟨k, m, a, c, hk, rfl, rfl, hm, hH⟩ := hrel
    by_cases hlt : k < size
    · obtain ⟨q, hq⟩ : ∃ q : Nat, q = 8 * (size - 1 - k) := ⟨_, rfl⟩
      obtain ⟨g, c', w2, hrun0, hen2⟩ := hH.out.app (by8 x (2 ^ q)) (by have := hm.out; omega)
      have hrun : (appSem #[51, 51] 51 #[.slice a m c, .slice (some ⟨wr.heap.size, 0, none⟩) 1 1]).run Tryd.prog (wr.alloc (.cells #[.int .u8 (x / 2 ^ q % 256)] 5)) = .ok (.slice (some ⟨g, 0, none⟩) (m + 1) c') w2 := by rw [← by8_val]; exact hrun0
      rw [hq, List.append_assoc, highL_next] at hen2
      have E2 := mkHid hen2
      have hqi : 8 * ((size : Int) - 1 - (k : Int)) = (q : Int) := by omega
      have hqt : (8 * ((size : Int) - 1 - (k : Int))).toNat = q := by omega
      have q0 : (q : Int) ≤ 56 := by omega
      have hki : (k : Int) < (size : Int) := by omega
      clear hH hen2 hrun0 hq
      go_wp2
      go_roundw
      case rel => exact ⟨k + 1, m + 1, _, _, by omega, by go_num, rfl, mkHid (by have := hm.out; omega), E2⟩
      case measure => simp [intOf]; omega
    · obtain rfl : k = size := by omega
      obtain rfl : m = n + k := hm.out
      go_wp2
      go_ret
      exact ⟨a, c, rfl, hH.out⟩

theorem Hi.str {base : Nat} {w wr : World} {va : Option Addr} {n vc : Nat} {acc : List UInt8} (h : Hi base w va n vc acc wr) : (convert 51 9 (.slice va n vc)).run Tryd.prog wr = .ok (.string ⟨acc.toArray⟩) wr := by
  obtain ⟨a, m, c, hv, hr⟩ := owns_string_any Tryd.underlying51 Tryd.underlying5 Tryd.underlying9 (by rw [h.len]; exact h.own)
  rw [hv]
  exact hr

/-- bytes 0 -/
def zr (m : Nat) : Array Value := ((List.replicate m (0 : UInt8)).map byteV).toArray
theorem zr_made (m : Nat) : madeCells #[.int .u8 0] m = zr m := by
  apply Array.ext
  · simp [madeCells, zr]
  · intro i h1 h2
    simp [madeCells, zr, byteV, Nat.mod_one]
theorem run_make_bytes (j : Nat) (hj : j ≤ 64) (u : World) : (Instr.makeSlice 51 (.int .i64 (1 + (j : Int))) (.int .i64 (1 + (j : Int)))).run Tryd.prog u =
    .ok (.slice (some ⟨u.heap.size, 0, none⟩) (j + 1) (j + 1)) (u.alloc (.cells (zr (j + 1)) 5)) := by
  obtain ⟨i0, hi, hz0, hz1, hz2⟩ := info_parts infoB
  have h := run_make (P := Tryd.prog) u 51 5 i0 (.int .u8 0) Tryd.underlying51 hi hz0 .i64 .i64 (1 + (j : Int)) (1 + (j : Int)) (by omega) (Int.le_refl _) (by rw [hz2]; omega) (by omega)
  have e : (1 + (j : Int)).toNat = j + 1 := by omega
  rw [e] at h
  rw [← zr_made]
  simpa [hz1, Value.cells] using h
theorem pad_row (j : Nat) : (zr (j + 1)).setIfInBounds 0 (.int .u8 128) = ((pad j).map byteV).toArray := by
  unfold zr pad
  simp [List.replicate_succ]
  rfl
theorem hi_pad {w : World} (j : Nat) (hj : j ≤ 64) : Hi w.heap.size (w.alloc (.cells ((pad j).map byteV).toArray 5)) (some ⟨w.heap.size, 0, none⟩) (j + 1) (j + 1) (pad j) (w.alloc (.cells ((pad j).map byteV).toArray 5)) := by
  have hb := blk_new w (.cells ((pad j).map byteV).toArray 5) _ rfl
  refine ⟨⟨by simp [pad_len], .inr ⟨w.heap.size, j + 1, _, rfl, Nat.le_refl _, hb, Nat.le_refl _, by unfold maxLen; omega, by simp [pad_len], by rw [List.take_of_length_le (by simp [pad_len])]⟩⟩, pad_len j, Below.refl _ _, by simp⟩

set_option maxRecDepth 100000 in
set_option maxHeartbeats 1000000 in
theorem padding_any (size : Int) (w : World) (h0 : 0 ≤ size) (h1 : size ≤ 1099511627776) :
    Calls Tryd.prog 87 #[.int .i64 size] w fun e w' => e = .returned (.string ⟨(tail size).toArray⟩) ∧ Below w.heap.size w w' := by
  obtain ⟨j, hj⟩ : ∃ j, j = gap size := ⟨_, rfl⟩
  have hjl : j ≤ 64 := by rw [hj]; have := gap_lt size; omega
  have hz : 63 - (size + 8) % 64 = (j : Int) := by rw [hj]; unfold gap; omega
  have hmk := run_make_bytes j hjl
  have hc : (w.alloc (.cells (zr (j + 1)) 5)).cell? ⟨w.heap.size, 0, none⟩ = some (.int .u8 0) := by
    rw [cell_of_block (blk_new w _ _ rfl)]
    simp [zr, byteV]
  have hf : (w.alloc (.cells (zr (j + 1)) 5)).frozen? ⟨w.heap.size, 0, none⟩ = false := unfrozen_of_block (blk_new w _ _ rfl) 0
  have hH : Hid (Hi w.heap.size (w.alloc (.cells ((pad j).map byteV).toArray 5)) (some ⟨w.heap.size, 0, none⟩) (j + 1) (j + 1) (pad j) (w.alloc (.cells ((pad j).map byteV).toArray 5))) := mkHid (hi_pad j hjl)
  have HK : Hid (Calls Tryd.prog 88 #[.slice (some ⟨w.heap.size, 0, none⟩) (j + 1) (j + 1), .int .i64 (8 * size), .int .i64 8] (w.alloc (.cells ((pad j).map byteV).toArray 5)) fun e w' => ∃ va' vc', e = .returned (.slice va' (j + 1 + 8) vc') ∧ Hi w.heap.size (w.alloc (.cells ((pad j).map byteV).toArray 5)) va' (j + 1 + 8) vc' (pad j ++ highL (8 * size) 8 8) w') :=
    mkHid (high_any w.heap.size (some ⟨w.heap.size, 0, none⟩) (j + 1) (j + 1) (pad j) (8 * size) 8 _ (by omega) (by omega) hH.out)
  have HJ := mkHid hj
  have hji : (j : Int) ≤ 64 := by omega
  clear hj
  go_enter Tryd.func87, Tryd.ntmps87
  go_wp2_with fail
  rw [pad_row]
  refine HK.out.mono ?_
  rintro e w1 ⟨va, vc, rfl, hE⟩
  have hconv := hE.str
  have e : pad j ++ highL (8 * size) 8 8 = tail size := by rw [high8, HJ.out]; rfl
  rw [e] at hconv
  have B := mkHid (hE.below)
  clear hE e
  go_wp2
  go_ret
  exact ⟨rfl, ((Below.refl _ _).alloc (Nat.le_refl _) _).trans B.out⟩
end Go.Proofs.YtppjbmmeacmoiaaDoor.shaI
namespace Go.Proofs.YtppjbmmeacmoiaaDoor.himpl
open Go.RowKit Go.Joins
open Go.Proofs.YtppjbmmeacmoiaaDoor.base Go.Proofs.YtppjbmmeacmoiaaDoor.ints Go.Proofs.YtppjbmmeacmoiaaDoor.blk
open Go.Proofs.YtppjbmmeacmoiaaDoor.sha (hRight endH dig digL digL_next by8 tail tail_len gap GV after fn rd_fn hRight_parts rowF rowF_cell)
open Go.Proofs.YtppjbmmeacmoiaaDoor.shaI (take_any after_bd st Hi high_any highL padding_any)
set_option linter.unusedVariables false

theorem high4 (x : Int) : highL x 4 4 = [by8 x 16777216, by8 x 65536, by8 x 256, by8 x 1] := rfl

/-- the boxed Hash -/
structure Eb (w : World) (box : Obj) (wr : World) : Prop where
  below : Below w.heap.size w wr
  bx : wr.heap[w.heap.size]? = some box
theorem Eb.next {w wr w' : World} {box : Obj} (h : Eb w box wr) (hb : Below wr.heap.size wr w') : Eb w box w' := ⟨h.below.trans (hb.mono h.below.size), blk_below h.bx hb⟩
theorem hi_here {base : Nat} {w wr : World} {va : Option Addr} {n vc : Nat} {acc : List UInt8} (h : Hi base w va n vc acc wr) : Hi base wr va n vc acc wr := ⟨h.own, h.len, Below.refl _ _, Nat.le_trans h.hb h.below.size⟩
theorem hi_from {base : Nat} {w wr w' : World} {va va' : Option Addr} {n n' vc vc' : Nat} {acc acc' : List UInt8} (h : Hi base w va n vc acc wr) (k : Hi base wr va' n' vc' acc' w') : Hi base w va' n' vc' acc' w' := ⟨k.own, k.len, h.below.trans k.below, h.hb⟩

set_option maxRecDepth 100000 in
set_option maxHeartbeats 1000000 in
theorem end_any : IEnd := by
  intro b0 off cap zs r size w hl hr hrs hs0 hs1 hG
  have HRt : Hid (∀ wx, Below w.heap.size w wx → Calls Tryd.prog 85 #[.agg #[.slice (some ⟨b0, off, none⟩) zs.length cap, .string r, .int .i64 size]] wx fun e w' => e = .returned (.bool (hRight zs r size)) ∧ Below wx.heap.size wx w') :=
    mkHid (fun wx hb => right_any b0 off cap zs r size wx hl (hr.below hb) hrs hs0 hs1)
  cases hR : hRight zs r size with
  | false =>
    have E : Hid (endH zs r size = ⟨#[]⟩) := mkHid (by unfold endH; rw [hR]; rfl)
    rw [E.out]
    have HQ := mkHid hR
    clear hR E hG hr
    unfold sha.hash
    go_enter Tryd.func78, Tryd.ntmps78
    go_wp2_with fail
    refine (HRt.out _ (below_alloc1 w _)).mono ?_
    rintro e w1 ⟨rfl, hb1⟩
    rw [HQ.out]
    have B := mkHid (below_allocs (os := [_]) hb1)
    clear hb1
    go_wp2
    go_ret
    exact ⟨rfl, B.out⟩
  | true =>
    obtain ⟨h8, hz0, hz1, hr64, hrl⟩ := hRight_parts hR
    obtain ⟨s, hsE⟩ : ∃ s, s = r ++ (⟨(tail size).toArray⟩ : ByteArray) := ⟨_, rfl⟩
    have htl : (⟨(tail size).toArray⟩ : ByteArray).size = gap size + 9 := by show (tail size).toArray.size = _; rw [List.size_toArray, tail_len]
    have hss : s.size = r.size + (gap size + 9) := by rw [hsE, ByteArray.size_append, htl]
    obtain ⟨n, hn⟩ : ∃ n, n = s.size / 64 := ⟨_, rfl⟩
    have hsn : s.size = 64 * n := by rw [hn, hss]; unfold gap; omega
    have hgl := sha.gap_lt size
    obtain ⟨f, hf⟩ : ∃ f, f = after (fn zs) s n := ⟨_, rfl⟩
    have HT : Hid (∀ wx, Below w.heap.size w wx → Calls Tryd.prog 86 #[.slice (some ⟨b0, off, none⟩) zs.length cap, .string s] wx fun e w' => ∃ g, e = .returned (.slice (some ⟨g, 0, none⟩) 8 8) ∧ w'.heap[g]? = some (rowF .i64 2 8 f) ∧ Below wx.heap.size wx w') :=
      mkHid (fun wx hb => by
        have h := take_any b0 off cap (fn zs) s n wx hsn (by omega) (rd_fn (hr.below hb) h8) (hG.at hb)
        rw [h8]
        refine h.mono ?_
        rintro e w' ⟨g, rfl, hg, hrow, hb'⟩
        refine ⟨g, rfl, hrow.trans (congrArg some (sha.rowF_congr (fun i hi => ?_))), hb'⟩
        unfold st
        rw [hf, after_bd (fn zs) s (fn_bd hR) n i hi])
    have HP : Hid (∀ wx, Calls Tryd.prog 87 #[.int .i64 size] wx fun e w' => e = .returned (.string ⟨(tail size).toArray⟩) ∧ Below wx.heap.size wx w') := mkHid (fun wx => padding_any size wx hz0 hz1)
    have E : Hid (endH zs r size = ⟨(digL f 8).toArray⟩) := mkHid (by unfold endH; rw [if_pos hR]; unfold dig; rw [hf, hn, hsE])
    rw [E.out]
    have HQ := mkHid hR
    have HSE := mkHid hsE.symm
    have hrt : (r.size : Int) + ((⟨(tail size).toArray⟩ : ByteArray).size : Int) ≤ 1000 := by omega
    have hrt2 : (9223372036854775807 < r.size + (⟨(tail size).toArray⟩ : ByteArray).size) = False := eq_false (by omega)
    clear hR E hG hr hsE hss hn hsn hf hr64 hrl htl hgl h8
    generalize (⟨(tail size).toArray⟩ : ByteArray) = tl at *
    unfold sha.hash
    go_enter Tryd.func78, Tryd.ntmps78
    go_wp2_with fail
    refine (HRt.out _ (below_alloc1 w _)).mono ?_
    rintro e w1 ⟨rfl, hb1⟩
    rw [HQ.out]
    have S1 : Hid (Eb w (.cells #[.slice (some ⟨b0, off, none⟩) zs.length cap, .string r, .int .i64 size] 102) w1) := mkHid ⟨below_allocs (os := [_]) hb1, blk_below (blk_new w _ _ rfl) hb1⟩
    have c0 : w1.cell? ⟨w.heap.size, 0, none⟩ = some (.slice (some ⟨b0, off, none⟩) zs.length cap) := cell_of_block S1.out.bx 0
    have c1 : w1.cell? ⟨w.heap.size, 1, none⟩ = some (.string r) := cell_of_block S1.out.bx 1
    have c2 : w1.cell? ⟨w.heap.size, 2, none⟩ = some (.int .i64 size) := cell_of_block S1.out.bx 2
    clear hb1
    go_wp2_with fail
    go_region_held3 (fun w' => w'.cell? ⟨w.heap.size, 0, none⟩ = some (.slice (some ⟨b0, off, none⟩) zs.length cap) ∧ w'.cell? ⟨w.heap.size, 1, none⟩ = some (.string r) ∧ w'.cell? ⟨w.heap.size, 2, none⟩ = some (.int .i64 size)) (go_keep)
      ((first
        | (go_at_call 87; refine Calls.mono (HP.out _) ?_; rintro e w2 ⟨rfl, hb2⟩; have S2 := mkHid (S1.out.next (re hb2 rfl rfl rfl rfl)); have a0 : w2.cell? ⟨w.heap.size, 0, none⟩ = some (.slice (some ⟨b0, off, none⟩) zs.length cap) := cell_of_block S2.out.bx 0; have a1 : w2.cell? ⟨w.heap.size, 1, none⟩ = some (.string r) := cell_of_block S2.out.bx 1; have a2 : w2.cell? ⟨w.heap.size, 2, none⟩ = some (.int .i64 size) := cell_of_block S2.out.bx 2; clear hb2)
        | (go_at_call 86; rw [HSE.out]; refine Calls.mono (HT.out _ (by first | exact S2.out.below | exact S2.out.below.drew)) ?_; rintro e w3 ⟨g, rfl, hrow, hb3⟩; have S3 := mkHid (And.intro (S2.out.next (re hb3 rfl rfl rfl rfl)) hrow); have d0 : w3.cell? ⟨w.heap.size, 0, none⟩ = some (.slice (some ⟨b0, off, none⟩) zs.length cap) := cell_of_block S3.out.1.bx 0; have d1 : w3.cell? ⟨w.heap.size, 1, none⟩ = some (.string r) := cell_of_block S3.out.1.bx 1; have d2 : w3.cell? ⟨w.heap.size, 2, none⟩ = some (.int .i64 size) := cell_of_block S3.out.1.bx 2; clear hb3 hrow)))
    clear a0 a1 a2 d0 d1 d2 c0 c1 c2 hrt hrt2 HP HT HRt HQ HSE S1 S2
    have H0 : Hid (Hi w3.heap.size w3 none 0 0 (digL f 0) w3) := mkHid ⟨⟨rfl, .inl ⟨rfl, rfl⟩⟩, rfl, Below.refl _ _, Nat.le_refl _⟩
    have hg3 : g < w3.heap.size := (Array.getElem?_eq_some_iff.1 S3.out.2).1
    go_wp2
    go_loopw [3, 19] (fun v i wr => ∃ (k m : Nat) (a : Option Addr) (c : Nat), k ≤ 8 ∧ i = .int .i64 k ∧ v = .slice a m c ∧ Hid (m = 4 * k) ∧ Hid (Hi w3.heap.size w3 a m c (digL f k) wr))
      (fun _ i _ => 8 - (intOf i).toNat)
    case atStart => exact ⟨0, 0, none, 0, by omega, rfl, rfl, mkHid rfl, H0⟩
    case round =>
      clear H0
      obtain ⟨k, m, a, c, hk, rfl, rfl, hm, hH⟩ := hrel
      by_cases hlt : k < 8
      · have hki : (k : Int) < 8 := by omega
        have hcell : wr.cell? ⟨g, k, none⟩ = some (.int .i64 (f k)) := by
          rw [hH.out.below.cell (p := ⟨g, k, none⟩) hg3]
          exact rowF_cell S3.out.2 hlt
        have HK : Hid (Calls Tryd.prog 88 #[.slice a m c, .int .i64 (f k), .int .i64 4] wr fun e w' => ∃ a' c', e = .returned (.slice a' (m + 4) c') ∧ Hi w3.heap.size w3 a' (m + 4) c' (digL f (k + 1)) w') := mkHid (by
          have h := high_any w3.heap.size a m c (digL f k) (f k) 4 wr (by omega) (by have := hm.out; omega) (hi_here hH.out)
          rw [high4, digL_next] at h
          exact h.mono (by rintro e w' ⟨a', c', rfl, h2⟩; exact ⟨a', c', rfl, hi_from hH.out h2⟩))
        generalize f k = x at *
        go_wp2_with fail
        refine HK.out.mono ?_
        rintro e w4 ⟨a', c', rfl, hE⟩
        have E4 := mkHid hE
        clear hE HK hH hcell
        go_wp2
        go_roundw
        case rel => exact ⟨k + 1, m + 4, a', c', by omega, by go_num, rfl, mkHid (by have := hm.out; omega), E4⟩
        case measure => simp [intOf]; omega
      · have hk8 : k = 8 := by omega
        have hconv := hH.out.str
        rw [hk8] at hconv
        have B := mkHid (S3.out.1.below.trans (hH.out.below.mono S3.out.1.below.size))
        clear hH
        go_wp2
        go_ret
        exact ⟨rfl, B.out⟩
end Go.Proofs.YtppjbmmeacmoiaaDoor.himpl
namespace Go.Proofs.YtppjbmmeacmoiaaDoor.himpl
open Go.RowKit Go.Joins
open Go.Proofs.YtppjbmmeacmoiaaDoor.base Go.Proofs.YtppjbmmeacmoiaaDoor.ints Go.Proofs.YtppjbmmeacmoiaaDoor.blk
open Go.Proofs.YtppjbmmeacmoiaaDoor.sha (startL)
set_option linter.unusedVariables false

set_option maxRecDepth 100000 in
theorem begin_any : IBegin := by
  intro w
  go_enter Tryd.func80, Tryd.ntmps80
  go_wp2
  refine bodyPost_ret (v := sha.hash (some ⟨w.heap.size + 1, 0, none⟩) 8 8 ⟨#[]⟩ 0) (by simp [results, Tryd.results80, go_sem, sha.hash]) rfl
    ⟨some ⟨w.heap.size + 1, 0, none⟩, 8, rfl, .inr ⟨w.heap.size + 1, rfl, OwnS.of ?_⟩, fun b o s e => by simp at e; omega, below_alloc2 w _ _⟩
  exact blk_new (w.alloc _) (.cells (startL.map intV).toArray 2 (0, 0)) (w.heap.size + 1) (by simp)
end Go.Proofs.YtppjbmmeacmoiaaDoor.himpl
