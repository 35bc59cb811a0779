/-
  What impl.readPlaces and impl.PlacesRead answer and leave. Condition: a text of at most 1,048,576 bytes.
-/
import Derived.Test.YtppjbmmeacmoiabRrI
import Derived.Test.YtppjbmmeacmoiabBtI
import Derived.Test.YtppjbmmeacmoiabAdO
import Derived.Test.YtppjbmmeacmoiabGetB
import Derived.Test.YtppjbmmeacmoiabStrs
namespace Go.Proofs.Ytppjbmmeacmoiab.plc
open Go.RowKit Go.Joins
open Go.Proofs.Ytppjbmmeacmoiab.base Go.Proofs.Ytppjbmmeacmoiab.blk Go.Proofs.Ytppjbmmeacmoiab.aid
open Go.Proofs.Ytppjbmmeacmoiab.row (Rd Own OwnV appSem app_fold)
open Go.Proofs.Ytppjbmmeacmoiab.rwPlace (cs el)
open Go.Proofs.Ytppjbmmeacmoiab.num (G tup)
set_option linter.unusedVariables false
set_option linter.unusedSimpArgs false
attribute [local go_sem ↓] app_fold

/-- what readPlaces answers and leaves -/
def RpPost (s : ByteArray) (w : World) (e : Ending) (w' : World) : Prop :=
  ∃ (a : Option Addr) (n c : Nat) (b : Bool), e = .returned (.tuple #[.slice a n c, .bool b]) ∧ (implR s = none → b = false) ∧ (∀ r, implR s = some r → b = true ∧ n = r.length ∧ w'.ownsRow w.heap.size 41 5 (.slice a n c) n (cs r)) ∧ Below w.heap.size w w'
theorem rp_no {s : ByteArray} {w w' : World} {a : Option Addr} {n c : Nat} (h : implR s = none) (hb : Below w.heap.size w w') : RpPost s w (.returned (.tuple #[.slice a n c, .bool false])) w' :=
  ⟨a, n, c, false, rfl, fun _ => rfl, fun r hr => by (rw [h] at hr; cases hr), hb⟩
/-- what holds on the way -/
structure Rj (w : World) (s : ByteArray) (N P k at_ : Nat) (acc : List Pl) (a : Option Addr) (c : Nat) (W : World) : Prop where
  run : runS s N (P, false) [] = runS s (N - k) (at_, false) acc
  len : acc.length = k
  le : k ≤ N
  far : 32 * k ≤ at_
  in_ : at_ ≤ s.size
  row : W.ownsRow w.heap.size 41 5 (.slice a k c) k (cs acc)
  below : Below w.heap.size w W
set_option maxRecDepth 100000 in
set_option maxHeartbeats 4000000 in
theorem readPlaces_any (s : ByteArray) (w : World) (hs : s.size ≤ 20000) :
    Calls Try.prog 29 #[.string s] w (RpPost s w) := by
  have hsi : (s.size : Int) ≤ 20000 := by omega
  have HN := mkHid (fun wx => num.read_any s 0 wx hs (by simp))
  have HP := mkHid (fun at_ wx (h : at_ ≤ s.size) => readPlace_any s at_ wx hs h)
  cases hG : G s ((0 : Nat) : Int) with
  | error c =>
    rw [hG] at HN
    have hI := mkHid (show implR s = none by
      unfold implR
      have : G s 0 = .error c := hG
      rw [this])
    have F := mkHid (rp_no (w := w) (a := none) (n := 0) (c := 0) hI.out (Below.refl _ _))
    clear hG hI
    go_enter Try.func29, Try.ntmps29
    go_wp2_with fail
    refine (HN.out _).mono ?_
    rintro e w1 ⟨rfl, rfl⟩
    unfold tup
    go_wp2
    exact bodyPost_ret (by simp [results, Try.results29, go_sem]) rfl F.out
  | ok r =>
    obtain ⟨z, p⟩ := r
    obtain ⟨P, rfl, _, hP, _⟩ := nbk.G_nat hG
    rw [hG] at HN
    have hPi : (P : Int) ≤ 20000 := by omega
    have hI := mkHid (show implR s = if (runS s z.toNat (P, false) []).2.2 = true then none else if bytesP (runS s z.toNat (P, false) []).1 = s then some (runS s z.toNat (P, false) []).1 else none by
      unfold implR
      have : G s 0 = .ok (z, (P : Int)) := hG
      rw [this]
      have e : ((P : Nat) : Int).toNat = P := by omega
      simp only [e])
    have S0 : Hid (Rj w s z.toNat P 0 P [] none 0 w) := mkHid ⟨rfl, rfl, Nat.zero_le _, by omega, hP, World.ownsRow_nil _ _ _ _, Below.refl _ _⟩
    clear hG
    go_enter Try.func29, Try.ntmps29
    go_wp2_with fail
    refine (HN.out _).mono ?_
    rintro e w1 ⟨rfl, rfl⟩
    unfold tup
    clear HN
    go_wp2_with fail
    go_loopw [5, 7, 20] (fun at_ v i wr => ∃ (k at' : Nat) (acc : List Pl) (a : Option Addr) (c : Nat), i = .int .i64 k ∧ at_ = .int .i64 at' ∧ v = .slice a k c ∧ Hid (Rj w s z.toNat P k at' acc a c wr))
      (fun _ _ i _ => z.toNat - (intOf i).toNat)
    case atStart => exact ⟨0, P, [], none, 0, rfl, rfl, rfl, S0⟩
    case round =>
      obtain ⟨k, q, acc, a, c, rfl, rfl, rfl, S⟩ := hrel
      clear S0
      have hk := S.out.far
      have hq := S.out.in_
      by_cases hlt : (k : Int) < z
      · obtain ⟨m, hm⟩ : ∃ m, z.toNat - k = m + 1 := ⟨z.toNat - k - 1, by omega⟩
        have hki : (k : Int) ≤ 1000 := by omega
        have hqi : (q : Int) ≤ 20000 := by omega
        have hrun := S.out.run
        rw [hm, runS_step] at hrun
        have HR := mkHid hrun
        clear hrun
        go_wp2_with fail
        refine (HP.out q _ hq).mono ?_
        rintro e w1 ⟨⟨x0, x1, x2, x3, x4, q', hpl, rfl⟩ | ⟨hpl, rfl⟩, hb⟩
        · have hrun := HR.out
          rw [hpl] at hrun
          simp only at hrun
          obtain ⟨_, hq1, hq2, _, _, _⟩ := placeS_ok hpl
          simp only at hq1
          have hrow1 := (row_keep S.out.row (below_grew hb none) (fun _ _ e => by cases e))
          have hB1 := below_trans S.out.below hb
          obtain ⟨g', c', w2, happ, hown, hg⟩ := rwPlace.app (W := w1.alloc (.cells #[.string x0, .string x1, .int .i64 x2, .int .i64 x3, .int .i64 x4] 41)) (base := w.heap.size) (.slice a k c) k acc x0 x1 x2 x3 x4 S.out.len (row_keep hrow1 (below_grew (below_alloc1 w1 _) none) (fun _ _ e => by cases e)) (by have := hB1.size; simp; omega) (by omega)
          have hB2 := hB1.alloc hB1.size (.cells #[.string x0, .string x1, .int .i64 x2, .int .i64 x3, .int .i64 x4] 41)
          have hB3 := hB2.alloc hB2.size (.cells #[.string x0, .string x1, .int .i64 x2, .int .i64 x3, .int .i64 x4] 41)
          have esz : (w1.alloc (.cells #[.string x0, .string x1, .int .i64 x2, .int .i64 x3, .int .i64 x4] 41)).heap.size = w1.heap.size + 1 := by simp
          rw [esz] at happ
          have N1 : Hid (Rj w s z.toNat P (k + 1) q' (acc ++ [(x0, x1, x2, x3, x4)]) (some ⟨g', 0, none⟩) c' w2) := mkHid ⟨by rw [hrun]; congr 1; omega, by rw [List.length_append, List.length_singleton, S.out.len], by omega, by omega, hq2, hown, hB3.grown hg hB3.size (fun j hj => (S.out.row.lt j hj).1)⟩
          have b1 := blk_new w1 (.cells #[.string x0, .string x1, .int .i64 x2, .int .i64 x3, .int .i64 x4] 41) w1.heap.size rfl
          obtain ⟨d0, d1, d2, d3, d4⟩ := cel5 b1
          clear S hb hpl hrun hrow1 hB1 hB2 hB3 hown hg b1 HR
          go_wp2
          go_roundw
          case rel => exact ⟨k + 1, q', _, _, c', by go_num, rfl, rfl, N1⟩
          case measure => simp [intOf]; omega
        · have hno : implR s = none := by
            rw [hI.out, if_pos]
            rw [HR.out]
            generalize placeS s (q, false) = pr at *
            obtain ⟨pp, q', f⟩ := pr
            have hf : f = true := hpl
            subst hf
            rw [runS_bad]
          have F := mkHid (rp_no (w := w) (a := none) (n := 0) (c := 0) hno ((below_trans S.out.below hb).alloc (below_trans S.out.below hb).size (.cells #[.string ⟨#[]⟩, .string ⟨#[]⟩, .int .i64 0, .int .i64 0, .int .i64 0] 41)))
          clear S hb hpl HR hno
          go_wp2
          exact bodyPost_ret (by simp [results, Try.results29, go_sem]) rfl F.out
      · have hkN : z.toNat - k = 0 := by omega
        have hrun := S.out.run
        rw [hkN] at hrun
        have hrun2 : runS s z.toNat (P, false) [] = (acc, (q, false)) := hrun
        obtain ⟨m, hm1, hm2, _, _, hm3, _⟩ := runS_ok s z.toNat P [] acc q hrun2 hP
        simp only [List.nil_append] at hm1
        subst hm1
        have hlen := S.out.len
        have hge : ((z : Int) ≤ (acc.length : Int)) := by omega
        have hsm : Small acc := fun p hp => by have := hm3 p hp; omega
        have hro : Rd wr a (cs acc) := own_rd S.out.row
        subst hlen
        have HB := mkHid (bytesI_any a c acc wr (by omega) hsm hro)
        have hI2 := mkHid (show implR s = if bytesP acc = s then some acc else none by rw [hI.out, hrun2]; simp)
        by_cases heq : bytesP acc = s
        · rw [heq] at HB
          have hss : (s.toList == s.toList) = true := by simp
          have hIs : implR s = some acc := by rw [hI2.out, if_pos heq]
          have HF := mkHid (fun w' (hb : Below wr.heap.size wr w') => (show RpPost s w (.returned (.tuple #[.slice a acc.length c, .bool true])) w' from ⟨a, acc.length, c, true, rfl, fun h => by (rw [hIs] at h; cases h), fun r hr => by
            rw [hIs] at hr
            cases hr
            exact ⟨rfl, rfl, row_keep S.out.row (below_grew hb none) (fun _ _ e => by cases e)⟩, below_trans S.out.below hb⟩))
          clear hI hI2 S hro hrun hrun2 hm3 hsm hm2 hkN heq hIs
          go_wp2_with fail
          refine HB.out.mono ?_
          rintro e w2 ⟨rfl, hb⟩
          have F := mkHid (HF.out _ hb)
          clear hb HF HB
          go_wp2
          exact bodyPost_ret (by simp [results, Try.results29, go_sem]) rfl F.out
        · have hss := strs.bytes_ne heq
          have HF := mkHid (fun w' (hb : Below wr.heap.size wr w') => rp_no (w := w) (a := a) (n := acc.length) (c := c) (show implR s = none by rw [hI2.out, if_neg heq]) (below_trans S.out.below hb))
          clear hI hI2 S hro hrun hrun2 hm3 hsm hm2 hkN heq
          generalize bytesP acc = t at *
          go_wp2_with fail
          refine HB.out.mono ?_
          rintro e w2 ⟨rfl, hb⟩
          have F := mkHid (HF.out _ hb)
          clear hb HF HB
          go_wp2
          exact bodyPost_ret (by simp [results, Try.results29, go_sem]) rfl F.out
set_option maxRecDepth 100000 in
set_option maxHeartbeats 4000000 in
theorem readI_any (s : ByteArray) (w : World) (hs : s.size ≤ 1048576) :
    Calls Try.prog 11 #[.string s] w (AOwn w (readA s)) := by
  have hb0 := blk_new w zeroA w.heap.size rfl
  have HB0 := mkHid (below_alloc1 w zeroA)
  unfold zeroA at hb0 HB0
  obtain ⟨z0, z1⟩ := cel2 hb0
  have uf := unfrozen hb0
  have hsi : (s.size : Int) ≤ 1048576 := by omega
  by_cases h1 : 20000 < s.size
  · have F : Hid (AOwn w (readA s) _ _) := mkHid (aown_new (k := 2) (by unfold readA; rw [if_pos h1]))
    have h1i : (20000 : Int) < (s.size : Int) := by omega
    clear hb0 HB0 z0 z1 uf
    go_enter Try.func11, Try.ntmps11
    go_wp2
    refine bodyPost_ret (v := .agg #[.slice none 0 0, .int .i64 2]) ?_ rfl F.out
    simp [results, Try.results11, go_sem]
  have h1i : (s.size : Int) ≤ 20000 := by omega
  have HA := mkHid (agree s (by omega))
  have HR := mkHid (readPlaces_any s (w.alloc (.cells #[.slice none 0 0, .int .i64 0] 30)) (by omega))
  have hbk := mkHid hb0
  clear z0 z1 uf hb0
  go_enter Try.func11, Try.ntmps11
  go_wp2_with fail
  refine HR.out.mono ?_
  rintro e w1 ⟨a, n, c, b, rfl, hno, hyes, hb⟩
  have hB1 := below_trans HB0.out hb
  have hb1 := blk_below hbk.out hb
  obtain ⟨z0, z1⟩ := cel2 hb1
  have uf := unfrozen hb1
  cases hI : implR s with
  | none =>
    have hbf := hno hI
    subst hbf
    have F : Hid (AOwn w (readA s) _ _) := mkHid (aown_no (k := 3) hB1 (by rw [HA.out, hI]; rfl))
    clear hno hyes hb hB1 hb1 hI HA HR HB0 hbk
    go_wp2
    refine bodyPost_ret (v := .agg #[.slice none 0 0, .int .i64 3]) ?_ rfl F.out
    simp [results, Try.results11, go_sem, z0, z1]
  | some r =>
    obtain ⟨hbt, hn, hown⟩ := hyes r hI
    subst hbt
    subst hn
    have hw0 : (w.alloc (.cells #[.slice none 0 0, .int .i64 0] 30)).heap.size = w.heap.size + 1 := by simp
    rw [hw0] at hown
    have hE : readA s = (r, 0) := by rw [HA.out, hI]; rfl
    have F : Hid (AOwn w (readA s) _ _) := mkHid (aown_of (a' := a) (n := r.length) (c' := c) (k := 0) hB1 (by rw [hE]) (by rw [hE]) (by rw [hE]; exact hown))
    clear hno hyes hb hB1 hb1 hI HA HR HB0 hbk hown hE
    go_wp2
    refine bodyPost_ret (v := .agg #[.slice a r.length c, .int .i64 0]) ?_ rfl F.out
    simp [results, Try.results11, go_sem, z0, z1]
end Go.Proofs.Ytppjbmmeacmoiab.plc
