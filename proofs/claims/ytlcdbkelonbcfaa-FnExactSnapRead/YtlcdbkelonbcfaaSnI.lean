/-
  What impl.readSnap and impl.SnapRead, and spec.SnapRead, answer and leave. Condition: a text of at most 1,048,576 bytes.
-/
import Derived.Test.YtlcdbkelonbcfaaSnS
import Derived.Test.YtlcdbkelonbcfaaTextR
import Derived.Test.YtlcdbkelonbcfaaGetB
import Derived.Test.YtlcdbkelonbcfaaClone
import Derived.Test.YtlcdbkelonbcfaaObjR
namespace Go.Proofs.Ytlcdbkelonbcfaa.snp
open Go.RowKit Go.Joins
open Go.Proofs.Ytlcdbkelonbcfaa.base Go.Proofs.Ytlcdbkelonbcfaa.blk Go.Proofs.Ytlcdbkelonbcfaa.aid
open Go.Proofs.Ytlcdbkelonbcfaa.num (G T ttup tup)
open Go.Proofs.Ytlcdbkelonbcfaa.plc (St numS txtS numS_yes txtS_yes)
set_option linter.unusedVariables false
set_option linter.unusedSimpArgs false

theorem pre_any (s : ByteArray) (w : World) :
    Calls Try.prog 69 #[.string s, .string ⟨#[83]⟩] w fun e w' => e = .returned (.bool (decide (1 ≤ s.size) && ((s.extract 0 1).toList == [83]))) ∧ w' = w := by
  refine (arr.prefix_any s ⟨#[83]⟩ w).mono ?_
  rintro e w' ⟨rfl, rfl⟩
  refine ⟨ret_eq ?_, rfl⟩
  rw [Lib.toList_data ⟨#[83]⟩]
  rfl
theorem sn_no {s : ByteArray} {w w' : World} (h : okS s = false) (hb : Below w.heap.size w w') : SnPost w s (.returned (.tuple #[.agg #[.string ⟨#[]⟩, .int .i64 0, .string ⟨#[]⟩], .bool false])) w' :=
  ⟨⟨_, _, _, false, rfl, h.symm, fun e => by cases e⟩, hb⟩
set_option maxRecDepth 100000 in
set_option maxHeartbeats 4000000 in
theorem snapI_read (s : ByteArray) (w : World) (hs : s.size ≤ 20000) :
    Calls Try.prog 58 #[.string s] w (SnPost w s) := by
  have hsi : (s.size : Int) ≤ 20000 := by omega
  have HP := mkHid (pre_any s (w.alloc (.cells #[.string ⟨#[]⟩, .int .i64 0, .string ⟨#[]⟩] 53)))
  have B0 := mkHid (below_alloc1 w (.cells #[.string ⟨#[]⟩, .int .i64 0, .string ⟨#[]⟩] 53))
  have b0 := mkHid (blk_new w (.cells #[.string ⟨#[]⟩, .int .i64 0, .string ⟨#[]⟩] 53) w.heap.size rfl)
  by_cases hpre : 1 ≤ s.size ∧ ((s.extract 0 1).toList == [83]) = true
  · obtain ⟨h1, hb⟩ := hpre
    have h0 : ¬ s.size < 1 := by omega
    rw [decide_eq_true h1, hb] at HP
    have B1 := mkHid (B0.out.alloc B0.out.size (.cells #[.string ⟨#[]⟩, .int .i64 0, .string ⟨#[]⟩] 53))
    have b1 := mkHid (blk_old b0.out (.cells #[.string ⟨#[]⟩, .int .i64 0, .string ⟨#[]⟩] 53))
    have x1 := mkHid (blk_new (w.alloc (.cells #[.string ⟨#[]⟩, .int .i64 0, .string ⟨#[]⟩] 53)) (.cells #[.string ⟨#[]⟩, .int .i64 0, .string ⟨#[]⟩] 53) (w.heap.size + 1) (by simp))
    have HT := mkHid (num.rtext_any s 1 ((w.alloc (.cells #[.string ⟨#[]⟩, .int .i64 0, .string ⟨#[]⟩] 53)).alloc (.cells #[.string ⟨#[]⟩, .int .i64 0, .string ⟨#[]⟩] 53)) (by omega) (by omega) (by omega))
    have hne : w.heap.size ≠ w.heap.size + 1 := by omega
    cases hT : T s 1 with
    | error c =>
      have E := mkHid (ok_text h0 hT)
      rw [hT] at HT
      clear hT hb h1 h0
      go_enter Try.func58, Try.ntmps58
      go_wp2_with fail
      refine HP.out.mono ?_
      rintro e w1 ⟨rfl, rfl⟩
      go_wp2_with fail
      refine HT.out.mono ?_
      rintro e w2 ⟨rfl, hbw⟩
      unfold ttup
      have B2 := mkHid (below_trans B1.out hbw)
      have b2 := blk_set (blk_below b1.out hbw) ⟨w.heap.size + 1, 0, none⟩ (.string ⟨#[]⟩) hne
      have x2 := blk_below x1.out hbw
      obtain ⟨g0, g1, g2⟩ := cel3s x2
      have ux := unfrozen x2
      obtain ⟨z0, z1, z2⟩ := cel3s b2
      have uf := unfrozen b2
      have F := mkHid (sn_no E.out (three_set (B2.out.setCell (p := ⟨w.heap.size + 1, 0, none⟩) (by simp) (.string ⟨#[]⟩)) (.string ⟨#[]⟩) (.int .i64 0) (.string ⟨#[]⟩)))
      clear hbw b2 x2 B2 B1 b1 x1 HT HP B0 b0 E
      go_wp2
      refine bodyPost_ret (v := .tuple #[.agg #[.string ⟨#[]⟩, .int .i64 0, .string ⟨#[]⟩], .bool false]) ?_ rfl F.out
      simp [results, Try.results58, go_sem, z0, z1, z2]
    | ok r =>
      obtain ⟨t, p⟩ := r
      obtain ⟨P, rfl, hP, hTx⟩ := txtS_yes s 1 t p hT
      have HR2 := mkHid (r2_yes h0 hTx)
      have tsz := txt_size s (1, false) hs
      rw [hTx] at tsz
      simp only at tsz
      have HN := mkHid (fun wx => num.read_all s (P : Int) wx (by omega) (by omega) (by omega))
      have hPi : (P : Int) ≤ 20000 := by omega
      rw [hT] at HT
      clear hT hTx
      cases hG : G s (P : Int) with
      | error c =>
        have E := mkHid (ok_num HR2.out hG)
        rw [hG] at HN
        clear hG hb h1 h0 HR2
        go_enter Try.func58, Try.ntmps58
        go_wp2_with fail
        refine HP.out.mono ?_
        rintro e w1 ⟨rfl, rfl⟩
        go_wp2_with fail
        refine HT.out.mono ?_
        rintro e w2 ⟨rfl, hbw⟩
        unfold ttup
        have B2 := mkHid ((below_trans B1.out hbw).setCell (p := ⟨w.heap.size + 1, 0, none⟩) (by simp) (.string t))
        have b2 := mkHid (blk_set (blk_below b1.out hbw) ⟨w.heap.size + 1, 0, none⟩ (.string t) hne)
        have x2 := blk_below x1.out hbw
        have x3 := mkHid (show (w2.setCell ⟨w.heap.size + 1, 0, none⟩ (.string t)).heap[w.heap.size + 1]? = some (.cells #[.string t, .int .i64 0, .string ⟨#[]⟩] 53) from heap_setCell_same w2 (w.heap.size + 1) 0 _ _ (.string t) x2)
        obtain ⟨g0, g1, g2⟩ := cel3s x2
        have ux := unfrozen x2
        clear hbw x2 B1 b1 x1 HT HP B0 b0
        go_wp2_with fail
        refine (HN.out _).mono ?_
        rintro e w3 ⟨rfl, rfl⟩
        unfold tup
        clear g0 g1 g2 ux
        generalize w2.setCell ⟨w.heap.size + 1, 0, none⟩ (.string t) = W at *
        obtain ⟨g0, g1, g2⟩ := cel3s x3.out
        have ux := unfrozen x3.out
        have b3 := blk_set b2.out ⟨w.heap.size + 1, 1, none⟩ (.int .i64 0) hne
        obtain ⟨z0, z1, z2⟩ := cel3s b3
        have uf := unfrozen b3
        have F := mkHid (sn_no E.out (three_set (B2.out.setCell (p := ⟨w.heap.size + 1, 1, none⟩) (by simp) (.int .i64 0)) (.string ⟨#[]⟩) (.int .i64 0) (.string ⟨#[]⟩)))
        clear b3 b2 x3 B2 E HN
        go_wp2
        refine bodyPost_ret (v := .tuple #[.agg #[.string ⟨#[]⟩, .int .i64 0, .string ⟨#[]⟩], .bool false]) ?_ rfl F.out
        simp [results, Try.results58, go_sem, z0, z1, z2]
      | ok r =>
        obtain ⟨n, q⟩ := r
        obtain ⟨Q, rfl, hQ, hNx⟩ := numS_yes s P n q hG
        have HR3 := mkHid (r3_yes HR2.out hNx)
        have HA := mkHid (ok_all h0 hb HR2.out HR3.out hQ)
        have HQ : Hid (∀ (o : Bool) (w' : World), o = snapB t n (s.extract Q s.size) → Below w.heap.size w w' → SnPost w s (.returned (.tuple #[.agg #[.string t, .int .i64 n, .string (s.extract Q s.size)], .bool o])) w') := mkHid (fun o w' ho hb => ⟨⟨_, _, _, o, rfl, ho.trans HA.out.1.symm, fun h => ⟨by rw [HR2.out], by rw [HR3.out], (HA.out.2 (by rw [HA.out.1, ← ho]; exact h)).symm⟩⟩, hb⟩)
        rw [hG] at HN
        have hQi : (Q : Int) ≤ (s.size : Int) := by omega
        have hsl : ∀ wx, (Instr.slice 9 (.string s) (some (.int .i64 (Q : Int))) none none).run Try.prog wx = .ok (.string (s.extract Q s.size)) wx := fun wx => by
          rw [run_slice_string_l (P := Try.prog) wx 9 s Try.underlying9 .i64 (Q : Int) (by omega) (by omega)]
          rfl
        have hr : (s.extract Q s.size).size ≤ 20000 := by rw [ByteArray.size_extract]; omega
        have HC := mkHid (fun wx => clone.clone_any (s.extract Q s.size) wx (by omega))
        have HS := mkHid (fun wx => snapI_any t n (s.extract Q s.size) wx (by omega) (by omega))
        clear hG hNx HR2 HR3 HA hb h1 h0
        generalize s.extract Q s.size = r at *
        generalize SnPost w s = Post at *
        generalize snapB t n r = b at *
        go_enter Try.func58, Try.ntmps58
        go_wp2_with fail
        refine HP.out.mono ?_
        rintro e w1 ⟨rfl, rfl⟩
        go_wp2_with fail
        refine HT.out.mono ?_
        rintro e w2 ⟨rfl, hbw⟩
        unfold ttup
        have B2 := mkHid ((below_trans B1.out hbw).setCell (p := ⟨w.heap.size + 1, 0, none⟩) (by simp) (.string t))
        have b2 := mkHid (blk_set (blk_below b1.out hbw) ⟨w.heap.size + 1, 0, none⟩ (.string t) hne)
        have x2 := blk_below x1.out hbw
        have x3 := mkHid (show (w2.setCell ⟨w.heap.size + 1, 0, none⟩ (.string t)).heap[w.heap.size + 1]? = some (.cells #[.string t, .int .i64 0, .string ⟨#[]⟩] 53) from heap_setCell_same w2 (w.heap.size + 1) 0 _ _ (.string t) x2)
        obtain ⟨g0, g1, g2⟩ := cel3s x2
        have ux := unfrozen x2
        clear hbw x2 B1 b1 x1 HT HP B0 b0
        go_wp2_with fail
        refine (HN.out _).mono ?_
        rintro e w3 ⟨rfl, rfl⟩
        unfold tup
        clear g0 g1 g2 ux HN
        generalize w2.setCell ⟨w.heap.size + 1, 0, none⟩ (.string t) = W at *
        obtain ⟨g0, g1, g2⟩ := cel3s x3.out
        have ux := unfrozen x3.out
        have B3 := mkHid (B2.out.setCell (p := ⟨w.heap.size + 1, 1, none⟩) (by simp) (.int .i64 n))
        have b3 := mkHid (blk_set b2.out ⟨w.heap.size + 1, 1, none⟩ (.int .i64 n) hne)
        have x4 := mkHid (show (W.setCell ⟨w.heap.size + 1, 1, none⟩ (.int .i64 n)).heap[w.heap.size + 1]? = some (.cells #[.string t, .int .i64 n, .string ⟨#[]⟩] 53) from heap_setCell_same W (w.heap.size + 1) 1 _ _ (.int .i64 n) x3.out)
        clear B2 b2 x3
        go_wp2_with fail
        clear g0 g1 g2 ux
        generalize W.setCell ⟨w.heap.size + 1, 1, none⟩ (.int .i64 n) = V at *
        refine (HC.out _).mono ?_
        rintro e w4 ⟨rfl, hbw⟩
        have B4 := mkHid ((below_trans B3.out hbw).setCell (p := ⟨w.heap.size + 1, 2, none⟩) (by simp) (.string r))
        have b4 := mkHid (blk_set (blk_below b3.out hbw) ⟨w.heap.size + 1, 2, none⟩ (.string r) hne)
        have x5 := blk_below x4.out hbw
        have x6 := mkHid (show (w4.setCell ⟨w.heap.size + 1, 2, none⟩ (.string r)).heap[w.heap.size + 1]? = some (.cells #[.string t, .int .i64 n, .string r] 53) from heap_setCell_same w4 (w.heap.size + 1) 2 _ _ (.string r) x5)
        obtain ⟨g0, g1, g2⟩ := cel3s x5
        have ux := unfrozen x5
        clear hbw x5 B3 b3 x4 HC
        go_wp2_with fail
        clear g0 g1 g2 ux
        generalize w4.setCell ⟨w.heap.size + 1, 2, none⟩ (.string r) = U at *
        generalize hX : w.heap.size + 1 = X at *
        obtain ⟨g0, g1, g2⟩ := cel3s x6.out
        obtain ⟨z0, z1, z2⟩ := cel3s b4.out
        have uf := unfrozen b4.out
        have hX2 : X ≠ w.heap.size := by omega
        go_region_held3 (fun w' => w'.cell? ⟨X, 0, none⟩ = some (.string t) ∧ w'.cell? ⟨X, 1, none⟩ = some (.int .i64 n) ∧ w'.cell? ⟨X, 2, none⟩ = some (.string r)) (go_keep)
          ((go_at_call 26; refine Calls.mono (HS.out _) ?_; rintro e w5 ⟨rfl, hb5⟩; (first
            | (have r5 := re (w := U) hb5 rfl rfl rfl rfl; have B5 := mkHid (below_trans B4.out r5); have R5 := mkHid (blk_below b4.out r5); have X5 := mkHid (blk_below x6.out r5); obtain ⟨i0, i1, i2⟩ := cel3s X5.out; obtain ⟨k0, k1, k2⟩ := cel3s R5.out; have u5 := unfrozen R5.out; clear hb5 r5)
            | (have r5 := re (w := ((U.setCell ⟨w.heap.size, 0, none⟩ (.string t)).setCell ⟨w.heap.size, 1, none⟩ (.int .i64 n)).setCell ⟨w.heap.size, 2, none⟩ (.string r)) hb5 rfl rfl rfl rfl; have B5 := mkHid (below_trans (three_set B4.out (.string t) (.int .i64 n) (.string r)) r5); have R5 := mkHid (blk_below (three_same b4.out (.string t) (.int .i64 n) (.string r)) r5); have X5 := mkHid (blk_below (three_off x6.out hX2 (.string t) (.int .i64 n) (.string r)) r5); obtain ⟨i0, i1, i2⟩ := cel3s X5.out; obtain ⟨k0, k1, k2⟩ := cel3s R5.out; have u5 := unfrozen R5.out; clear hb5 r5))))
        all_goals
          go_wp2
          refine bodyPost_ret (v := .tuple #[.agg #[.string t, .int .i64 n, .string r], .bool b]) ?_ rfl ?_
          rotate_left
          · first
              | exact HQ.out b _ rfl B5.out
              | exact HQ.out b _ rfl (three_set B5.out (.string t) (.int .i64 n) (.string r))
          · simp [results, Try.results58, go_sem, k0, k1, k2]
  · have hz : (decide (1 ≤ s.size) && ((s.extract 0 1).toList == [83])) = false := by
      by_cases h1 : 1 ≤ s.size
      · cases hb : ((s.extract 0 1).toList == [83]) with
        | false => simp
        | true => exact absurd ⟨h1, hb⟩ hpre
      · rw [decide_eq_false h1]; rfl
    have E : Hid (okS s = false) := mkHid (ok_first (by
      by_cases h1 : 1 ≤ s.size
      · exact .inl (by rw [decide_eq_true h1] at hz; simpa using hz)
      · exact .inr (by omega)))
    rw [hz] at HP
    obtain ⟨z0, z1, z2⟩ := cel3s b0.out
    have uf := unfrozen b0.out
    have F := mkHid (sn_no E.out B0.out)
    clear hpre hz E
    go_enter Try.func58, Try.ntmps58
    go_wp2_with fail
    refine HP.out.mono ?_
    rintro e w1 ⟨rfl, rfl⟩
    go_wp2
    refine bodyPost_ret (v := .tuple #[.agg #[.string ⟨#[]⟩, .int .i64 0, .string ⟨#[]⟩], .bool false]) ?_ rfl F.out
    simp [results, Try.results58, go_sem, z0, z1, z2]
def zeroSO : Obj := .cells #[.string ⟨#[]⟩, .int .i64 0, .string ⟨#[]⟩, .int .i64 0] 58
theorem four_set {w W : World} (hb : Below w.heap.size w W) (v0 v1 v2 v3 : Value) : Below w.heap.size w ((((W.setCell ⟨w.heap.size, 0, none⟩ v0).setCell ⟨w.heap.size, 1, none⟩ v1).setCell ⟨w.heap.size, 2, none⟩ v2).setCell ⟨w.heap.size, 3, none⟩ v3) :=
  (three_set hb v0 v1 v2).setCell (p := ⟨w.heap.size, 3, none⟩) (Nat.le_refl _) v3
set_option maxRecDepth 100000 in
set_option maxHeartbeats 2000000 in
theorem readS_any (s : ByteArray) (w : World) (hs : s.size ≤ 1048576) :
    Calls Try.prog 29 #[.string s] w fun e w' => e = .returned (outV (readA s)) ∧ Below w.heap.size w w' := by
  have hsi : (s.size : Int) ≤ 1048576 := by omega
  have b0 := blk_new w zeroSO w.heap.size rfl
  have B0 := mkHid (below_alloc1 w zeroSO)
  by_cases h1 : 20000 < s.size
  · have h1i : (20000 : Int) < (s.size : Int) := by omega
    have E := mkHid (show outV (readA s) = .agg #[.string ⟨#[]⟩, .int .i64 0, .string ⟨#[]⟩, .int .i64 2] by unfold readA; rw [if_pos h1]; rfl)
    clear b0 B0
    go_enter Try.func29, Try.ntmps29
    go_wp2
    refine bodyPost_ret (v := .agg #[.string ⟨#[]⟩, .int .i64 0, .string ⟨#[]⟩, .int .i64 2]) ?_ rfl ?_
    rotate_left
    · exact ⟨by rw [E.out], below_alloc1 _ _⟩
    · simp [results, Try.results29, go_sem]
  · have h1i : (s.size : Int) ≤ 20000 := by omega
    have HR := mkHid (fun wx => snapR_any s wx (by omega))
    have b0h := mkHid b0
    unfold zeroSO at B0 b0h
    clear b0
    go_enter Try.func29, Try.ntmps29
    go_wp2_with fail
    refine (HR.out _).mono ?_
    rintro e w1 ⟨⟨x0, x2, x1, o, rfl, ho, hx⟩, hb⟩
    have B1 := mkHid (below_trans B0.out hb)
    have b1 := blk_below b0h.out hb
    cases o with
    | false =>
      have E := mkHid (show outV (readA s) = .agg #[.string ⟨#[]⟩, .int .i64 0, .string ⟨#[]⟩, .int .i64 3] by unfold readA; rw [if_neg h1, if_neg (by rw [← ho]; simp)]; rfl)
      have b2 := blk_old b1 (.cells #[.string x0, .int .i64 x1, .string x2] 53)
      obtain ⟨z0, z1, z2, z3⟩ := cel4 b2
      have uf := unfrozen b2
      have F := mkHid (four_set (B1.out.alloc B1.out.size (.cells #[.string x0, .int .i64 x1, .string x2] 53)) (.string ⟨#[]⟩) (.int .i64 0) (.string ⟨#[]⟩) (.int .i64 3))
      clear hb b1 b2 B1 HR b0h B0 ho hx
      go_wp2
      refine bodyPost_ret (v := .agg #[.string ⟨#[]⟩, .int .i64 0, .string ⟨#[]⟩, .int .i64 3]) ?_ rfl ?_
      rotate_left
      · exact ⟨by rw [E.out], F.out⟩
      · simp [results, Try.results29, go_sem, z0, z1, z2, z3]
    | true =>
      obtain ⟨rfl, rfl, rfl⟩ := hx rfl
      have E := mkHid (show outV (readA s) = .agg #[.string (r2 s).1, .int .i64 (r3 s).1, .string (r4 s).1, .int .i64 0] by unfold readA; rw [if_neg h1, if_pos ho.symm]; rfl)
      generalize (r2 s).1 = x0 at *
      generalize (r3 s).1 = x1 at *
      generalize (r4 s).1 = x2 at *
      have b2 := blk_old b1 (.cells #[.string x0, .int .i64 x1, .string x2] 53)
      obtain ⟨z0, z1, z2, z3⟩ := cel4 b2
      have uf := unfrozen b2
      have F := mkHid (four_set (B1.out.alloc B1.out.size (.cells #[.string x0, .int .i64 x1, .string x2] 53)) (.string x0) (.int .i64 x1) (.string x2) (.int .i64 0))
      clear hb b1 b2 B1 HR b0h B0 ho hx
      go_wp2
      refine bodyPost_ret (v := .agg #[.string x0, .int .i64 x1, .string x2, .int .i64 0]) ?_ rfl ?_
      rotate_left
      · exact ⟨by rw [E.out], F.out⟩
      · simp [results, Try.results29, go_sem, z0, z1, z2, z3]
set_option maxRecDepth 100000 in
set_option maxHeartbeats 2000000 in
theorem readI_any (s : ByteArray) (w : World) (hs : s.size ≤ 1048576) :
    Calls Try.prog 30 #[.string s] w fun e w' => e = .returned (outV (readA s)) ∧ Below w.heap.size w w' := by
  have hsi : (s.size : Int) ≤ 1048576 := by omega
  have b0 := blk_new w zeroSO w.heap.size rfl
  have B0 := mkHid (below_alloc1 w zeroSO)
  by_cases h1 : 20000 < s.size
  · have h1i : (20000 : Int) < (s.size : Int) := by omega
    have E := mkHid (show outV (readA s) = .agg #[.string ⟨#[]⟩, .int .i64 0, .string ⟨#[]⟩, .int .i64 2] by unfold readA; rw [if_pos h1]; rfl)
    clear b0 B0
    go_enter Try.func30, Try.ntmps30
    go_wp2
    refine bodyPost_ret (v := .agg #[.string ⟨#[]⟩, .int .i64 0, .string ⟨#[]⟩, .int .i64 2]) ?_ rfl ?_
    rotate_left
    · exact ⟨by rw [E.out], below_alloc1 _ _⟩
    · simp [results, Try.results30, go_sem]
  · have h1i : (s.size : Int) ≤ 20000 := by omega
    have HR := mkHid (fun wx => snapI_read s wx (by omega))
    have b0h := mkHid b0
    unfold zeroSO at B0 b0h
    clear b0
    go_enter Try.func30, Try.ntmps30
    go_wp2_with fail
    refine (HR.out _).mono ?_
    rintro e w1 ⟨⟨x0, x2, x1, o, rfl, ho, hx⟩, hb⟩
    have B1 := mkHid (below_trans B0.out hb)
    have b1 := blk_below b0h.out hb
    cases o with
    | false =>
      have E := mkHid (show outV (readA s) = .agg #[.string ⟨#[]⟩, .int .i64 0, .string ⟨#[]⟩, .int .i64 3] by unfold readA; rw [if_neg h1, if_neg (by rw [← ho]; simp)]; rfl)
      have b2 := blk_old b1 (.cells #[.string x0, .int .i64 x1, .string x2] 53)
      obtain ⟨z0, z1, z2, z3⟩ := cel4 b2
      have uf := unfrozen b2
      have F := mkHid (four_set (B1.out.alloc B1.out.size (.cells #[.string x0, .int .i64 x1, .string x2] 53)) (.string ⟨#[]⟩) (.int .i64 0) (.string ⟨#[]⟩) (.int .i64 3))
      clear hb b1 b2 B1 HR b0h B0 ho hx
      go_wp2
      refine bodyPost_ret (v := .agg #[.string ⟨#[]⟩, .int .i64 0, .string ⟨#[]⟩, .int .i64 3]) ?_ rfl ?_
      rotate_left
      · exact ⟨by rw [E.out], F.out⟩
      · simp [results, Try.results30, go_sem, z0, z1, z2, z3]
    | true =>
      obtain ⟨rfl, rfl, rfl⟩ := hx rfl
      have E := mkHid (show outV (readA s) = .agg #[.string (r2 s).1, .int .i64 (r3 s).1, .string (r4 s).1, .int .i64 0] by unfold readA; rw [if_neg h1, if_pos ho.symm]; rfl)
      generalize (r2 s).1 = x0 at *
      generalize (r3 s).1 = x1 at *
      generalize (r4 s).1 = x2 at *
      have b2 := blk_old b1 (.cells #[.string x0, .int .i64 x1, .string x2] 53)
      obtain ⟨z0, z1, z2, z3⟩ := cel4 b2
      have uf := unfrozen b2
      have F := mkHid (four_set (B1.out.alloc B1.out.size (.cells #[.string x0, .int .i64 x1, .string x2] 53)) (.string x0) (.int .i64 x1) (.string x2) (.int .i64 0))
      clear hb b1 b2 B1 HR b0h B0 ho hx
      go_wp2
      refine bodyPost_ret (v := .agg #[.string x0, .int .i64 x1, .string x2, .int .i64 0]) ?_ rfl ?_
      rotate_left
      · exact ⟨by rw [E.out], F.out⟩
      · simp [results, Try.results30, go_sem, z0, z1, z2, z3]
end Go.Proofs.Ytlcdbkelonbcfaa.snp
