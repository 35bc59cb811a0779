/-
  What impl.readCounted of places and impl.PlacesRead answer and leave. Condition: a text of at most 1,048,576 bytes.
-/
import Derived.Test.YtmmmadehifajlaaRrI
import Derived.Test.YtmmmadehifajlaaBtI
import Derived.Test.YtmmmadehifajlaaAdO
import Derived.Test.YtmmmadehifajlaaGetB
import Derived.Test.YtmmmadehifajlaaStrs
namespace Go.Proofs.Ytmmmadehifajlaa.plc
open Go.RowKit Go.Joins
open Go.Proofs.Ytmmmadehifajlaa.base Go.Proofs.Ytmmmadehifajlaa.blk Go.Proofs.Ytmmmadehifajlaa.aid
open Go.Proofs.Ytmmmadehifajlaa.row (Rd Own OwnV appSem app_fold)
open Go.Proofs.Ytmmmadehifajlaa.rwPlace (cs el)
open Go.Proofs.Ytmmmadehifajlaa.num (G tup)
set_option linter.unusedVariables false
set_option linter.unusedSimpArgs false
attribute [local go_sem ↓] app_fold

/-- so many places, one behind the other -/
def rcP (s : ByteArray) : Option (List Pl) :=
  match G s 0 with
  | .error _ => none
  | .ok (n, p) => if (runS s n.toNat (p.toNat, false) []).2.2 = true then none else some (runS s n.toNat (p.toNat, false) []).1
theorem implR_is (s : ByteArray) : implR s = match rcP s with | none => none | some l => if bytesP l = s then some l else none := by
  unfold implR rcP
  cases G s 0 with
  | error c => rfl
  | ok r =>
    obtain ⟨n, p⟩ := r
    simp only
    by_cases h : (runS s n.toNat (p.toNat, false) []).2.2 = true
    · simp [h]
    · simp [h]
/-- what readCounted answers and leaves -/
def RcPost (s : ByteArray) (w : World) (e : Ending) (w' : World) : Prop :=
  ((∃ T v, e = .returned (.tuple #[.slice none 0 0, .iface T v]) ∧ rcP s = none) ∨
   (∃ (a : Option Addr) (c : Nat) (r : List Pl), e = .returned (.tuple #[.slice a r.length c, .nilIface]) ∧ rcP s = some r ∧ r.length ≤ 1000 ∧ Small r ∧ w'.ownsRow w.heap.size 75 5 (.slice a r.length c) r.length (cs r))) ∧ Below w.heap.size w w'
/-- what holds on the way -/
structure Rj (w : World) (s : ByteArray) (N P k at_ : Nat) (acc : List Pl) (a : Option Addr) (c : Nat) (W : World) : Prop where
  run : runS s N (P, false) [] = runS s (N - k) (at_, false) acc
  len : acc.length = k
  le : k ≤ N
  far : 32 * k ≤ at_
  in_ : at_ ≤ s.size
  row : W.ownsRow w.heap.size 75 5 (.slice a k c) k (cs acc)
  below : Below w.heap.size w W
theorem below5r2 {w w1 : World} {g : Nat} (hb : Below w.heap.size w w1) (hg : w.heap.size ≤ g) (x0 x1 x2 x3 x4 : Value) : Below w.heap.size w (((((w1.setCell ⟨g, 0, none⟩ x0).setCell ⟨g, 1, none⟩ x1).setCell ⟨g, 2, none⟩ x2).setCell ⟨g, 3, none⟩ x3).setCell ⟨g, 4, none⟩ x4) := below5r hb hg x0 x1 x2 x3 x4
theorem grew5 (w : World) (X : Nat) (x0 x1 x2 x3 x4 : Value) : w.grownBy (((((w.setCell ⟨X, 0, none⟩ x0).setCell ⟨X, 1, none⟩ x1).setCell ⟨X, 2, none⟩ x2).setCell ⟨X, 3, none⟩ x3).setCell ⟨X, 4, none⟩ x4) (some X) :=
  grew_grew (grew_grew (grew_grew (grew_grew (grew_cell w X 0 x0) (grew_cell _ X 1 x1)) (grew_cell _ X 2 x2)) (grew_cell _ X 3 x3)) (grew_cell _ X 4 x4)
set_option maxRecDepth 100000 in
set_option maxHeartbeats 4000000 in
theorem rcP_any (s : ByteArray) (w : World) (hs : s.size ≤ 20000) :
    Calls Try.prog 45 #[.string s, .func (.func 46) #[] #[]] w (RcPost s w) := by
  have hsi : (s.size : Int) ≤ 20000 := by omega
  have HN := mkHid (fun wx => num.read_any s 0 wx hs (by simp))
  have HP := mkHid (fun at_ wx (h : at_ ≤ s.size) => readPlace_any s at_ wx hs h)
  cases hG : G s ((0 : Nat) : Int) with
  | error c =>
    rw [hG] at HN
    have hI := mkHid (show rcP s = none by
      unfold rcP
      have : G s 0 = .error c := hG
      rw [this])
    have F : Hid (∀ T v, RcPost s w (.returned (.tuple #[.slice none 0 0, .iface T v])) w) := mkHid (fun T v => ⟨.inl ⟨T, v, rfl, hI.out⟩, Below.refl _ _⟩)
    clear hG hI
    go_enter Try.func45, Try.ntmps45
    go_wp2_with fail
    refine (HN.out _).mono ?_
    rintro e w1 ⟨rfl, rfl⟩
    unfold tup
    go_wp2
    exact bodyPost_ret (v := .tuple #[.slice none 0 0, .iface 129 (.agg #[.int .i64 c])]) (by simp [results, Try.results45, go_sem]) rfl (F.out _ _)
  | ok r =>
    obtain ⟨z, p⟩ := r
    obtain ⟨P, rfl, _, hP, _⟩ := nbk.G_nat hG
    rw [hG] at HN
    have hPi : (P : Int) ≤ 20000 := by omega
    have hI := mkHid (show rcP s = if (runS s z.toNat (P, false) []).2.2 = true then none else some (runS s z.toNat (P, false) []).1 by
      unfold rcP
      have : G s 0 = .ok (z, (P : Int)) := hG
      rw [this]
      have e : ((P : Nat) : Int).toNat = P := by omega
      simp only [e])
    have S0 : Hid (Rj w s z.toNat P 0 P [] none 0 w) := mkHid ⟨rfl, rfl, Nat.zero_le _, by omega, hP, World.ownsRow_nil _ _ _ _, Below.refl _ _⟩
    clear hG
    go_enter Try.func45, Try.ntmps45
    go_wp2_with fail
    refine (HN.out _).mono ?_
    rintro e w1 ⟨rfl, rfl⟩
    unfold tup
    clear HN
    go_wp2_with fail
    go_loopw [7, 8, 9, 21] (fun at_ ev v i wr => ∃ (k at' : Nat) (acc : List Pl) (a : Option Addr) (c : Nat), i = .int .i64 k ∧ at_ = .int .i64 at' ∧ v = .slice a k c ∧ Hid (Rj w s z.toNat P k at' acc a c wr))
      (fun _ _ _ i _ => z.toNat - (intOf i).toNat)
    case atStart => exact ⟨0, P, [], none, 0, rfl, rfl, rfl, S0⟩
    case round =>
      obtain ⟨k, q, acc, a, c, rfl, rfl, rfl, S⟩ := hrel
      clear S0
      have hk := S.out.far
      have hq := S.out.in_
      by_cases hlt : (k : Int) < z
      · obtain ⟨m, hm⟩ : ∃ m, z.toNat - k = m + 1 := ⟨z.toNat - k - 1, by omega⟩
        have hki : (k : Int) ≤ 1000 := by omega
        have hqi : (q : Int) ≤ 20000 := by omega
        have hrun := S.out.run
        rw [hm, runS_step] at hrun
        have HR := mkHid hrun
        have hbx := mkHid (blk_new wr (.cells #[.string ⟨#[]⟩, .string ⟨#[]⟩, .int .i64 0, .int .i64 0, .int .i64 0] 75) wr.heap.size rfl)
        have HPx := mkHid (HP.out q (wr.alloc (.cells #[.string ⟨#[]⟩, .string ⟨#[]⟩, .int .i64 0, .int .i64 0, .int .i64 0] 75)) hq)
        clear hrun
        go_wp2_with fail
        refine HPx.out.mono ?_
        rintro e w1 ⟨⟨x0, x1, x2, x3, x4, q', hpl, rfl⟩ | ⟨hpl, TT, ev, rfl⟩, hb⟩
        · have hrun := HR.out
          rw [hpl] at hrun
          simp only at hrun
          obtain ⟨_, hq1, hq2, _, _, _⟩ := placeS_ok hpl
          simp only at hq1
          have hB0 := S.out.below.alloc S.out.below.size (.cells #[.string ⟨#[]⟩, .string ⟨#[]⟩, .int .i64 0, .int .i64 0, .int .i64 0] 75)
          have hrow0 := row_keep S.out.row (below_grew (below_alloc1 wr (.cells #[.string ⟨#[]⟩, .string ⟨#[]⟩, .int .i64 0, .int .i64 0, .int .i64 0] 75)) none) (fun _ _ e => by cases e)
          have hrow1 := row_keep hrow0 (below_grew hb none) (fun _ _ e => by cases e)
          have hB1 := below_trans hB0 hb
          have hX := S.out.below.size
          have hoff : ∀ g, (Value.slice a k c).ownBlock = some g → some wr.heap.size ≠ some g := fun g hg e => by
            have := (S.out.row.lt g hg).2
            cases e
            omega
          have hb1 := blk_below hbx.out hb
          obtain ⟨y0, y1, y2, y3, y4⟩ := cel5 hb1
          have uf := unfrozen hb1
          have hrow2 := row_keep hrow1 (grew5 w1 wr.heap.size (.string x0) (.string x1) (.int .i64 x2) (.int .i64 x3) (.int .i64 x4)) hoff
          have hB2 := below5r2 hB1 hX (.string x0) (.string x1) (.int .i64 x2) (.int .i64 x3) (.int .i64 x4)
          have hsz : (((((w1.setCell ⟨wr.heap.size, 0, none⟩ (.string x0)).setCell ⟨wr.heap.size, 1, none⟩ (.string x1)).setCell ⟨wr.heap.size, 2, none⟩ (.int .i64 x2)).setCell ⟨wr.heap.size, 3, none⟩ (.int .i64 x3)).setCell ⟨wr.heap.size, 4, none⟩ (.int .i64 x4)).heap.size = w1.heap.size := by simp
          obtain ⟨g', c', w2, happ, hown, hg⟩ := rwPlace.app (W := (((((w1.setCell ⟨wr.heap.size, 0, none⟩ (.string x0)).setCell ⟨wr.heap.size, 1, none⟩ (.string x1)).setCell ⟨wr.heap.size, 2, none⟩ (.int .i64 x2)).setCell ⟨wr.heap.size, 3, none⟩ (.int .i64 x3)).setCell ⟨wr.heap.size, 4, none⟩ (.int .i64 x4))) (base := w.heap.size) (.slice a k c) k acc x0 x1 x2 x3 x4 S.out.len hrow2 hB2.size (by omega)
          rw [hsz] at happ
          have hB3 := hB2.alloc hB2.size (.cells #[.string x0, .string x1, .int .i64 x2, .int .i64 x3, .int .i64 x4] 75)
          have N1 : Hid (Rj w s z.toNat P (k + 1) q' (acc ++ [(x0, x1, x2, x3, x4)]) (some ⟨g', 0, none⟩) c' w2) := mkHid ⟨by rw [hrun]; congr 1; omega, by rw [List.length_append, List.length_singleton, S.out.len], by omega, by omega, hq2, hown, hB3.grown hg hB3.size (fun j hj => (S.out.row.lt j hj).1)⟩
          clear hrow0 hrow1 hrow2 hB0 hB1 hB2 hB3 hb1 hoff hX hb hpl hsz hown hg hrun S HR HPx hbx
          go_wp2
          exact ⟨⟨k + 1, q', _, _, c', by go_num, rfl, rfl, N1⟩, by simp [intOf]; omega⟩
        · have hno : rcP s = none := by
            rw [hI.out, if_pos]
            rw [HR.out]
            generalize placeS s (q, false) = pr at *
            obtain ⟨pp, q', f⟩ := pr
            have hf : f = true := hpl
            subst hf
            rw [runS_bad]
          have hb1 := blk_below hbx.out hb
          obtain ⟨y0, y1, y2, y3, y4⟩ := cel5 hb1
          have uf := unfrozen hb1
          have hX := S.out.below.size
          have F : Hid (RcPost s w (.returned (.tuple #[.slice none 0 0, .iface TT ev])) _) := mkHid ⟨.inl ⟨TT, ev, rfl, hno⟩, below5r2 (below_trans (S.out.below.alloc S.out.below.size (.cells #[.string ⟨#[]⟩, .string ⟨#[]⟩, .int .i64 0, .int .i64 0, .int .i64 0] 75)) hb) hX (.string ⟨#[]⟩) (.string ⟨#[]⟩) (.int .i64 0) (.int .i64 0) (.int .i64 0)⟩
          clear S hb hpl HR hno hb1 hX HPx hbx
          go_wp2
          refine bodyPost_ret (v := .tuple #[.slice none 0 0, .iface TT ev]) ?_ rfl F.out
          simp [results, Try.results45, go_sem]
      · have hkN : z.toNat - k = 0 := by omega
        have hrun := S.out.run
        rw [hkN] at hrun
        have hrun2 : runS s z.toNat (P, false) [] = (acc, (q, false)) := hrun
        obtain ⟨m, hm1, hm2, _, _, hm3, _⟩ := runS_ok s z.toNat P [] acc q hrun2 hP
        simp only [List.nil_append] at hm1
        subst hm1
        have hlen := S.out.len
        have hge : ((z : Int) ≤ (acc.length : Int)) := by omega
        have hsm : Small acc := fun p hp => by have := hm3 p hp; omega
        subst hlen
        have F : Hid (RcPost s w (.returned (.tuple #[.slice a acc.length c, .nilIface])) wr) := mkHid ⟨.inr ⟨a, c, acc, rfl, by rw [hI.out, hrun2]; simp, by omega, hsm, S.out.row⟩, S.out.below⟩
        clear hI S hrun hrun2 hm3 hsm hm2 hkN
        go_wp2
        exact bodyPost_ret (v := .tuple #[.slice a acc.length c, .nilIface]) (by simp [results, Try.results45, go_sem]) rfl F.out
set_option maxRecDepth 100000 in
set_option maxHeartbeats 4000000 in
theorem readI_any (s : ByteArray) (w : World) (hs : s.size ≤ 1048576) :
    Calls Try.prog 16 #[.string s] w (AOwn w (readA s)) := by
  have hb0 := blk_new w zeroA w.heap.size rfl
  have HB0 := mkHid (below_alloc1 w zeroA)
  unfold zeroA at hb0 HB0
  obtain ⟨z0, z1⟩ := cel2 hb0
  have uf := unfrozen hb0
  have hsi : (s.size : Int) ≤ 1048576 := by omega
  by_cases h1 : 20000 < s.size
  · have F : Hid (AOwn w (readA s) _ _) := mkHid (aown_new (k := 2) (by unfold readA; rw [if_pos h1]))
    have h1i : (20000 : Int) < (s.size : Int) := by omega
    clear hb0 HB0 z0 z1 uf
    go_enter Try.func16, Try.ntmps16
    go_wp2
    refine bodyPost_ret (v := .agg #[.slice none 0 0, .int .i64 2]) ?_ rfl F.out
    simp [results, Try.results16, go_sem]
  have h1i : (s.size : Int) ≤ 20000 := by omega
  have HA := mkHid (agree s (by omega))
  rw [implR_is] at HA
  have HR := mkHid (rcP_any s (w.alloc (.cells #[.slice none 0 0, .int .i64 0] 34)) (by omega))
  have hbk := mkHid hb0
  clear z0 z1 uf hb0
  go_enter Try.func16, Try.ntmps16
  go_wp2_with fail
  refine HR.out.mono ?_
  rintro e w1 ⟨⟨TT, ev, rfl, hrc⟩ | ⟨a, c, r, rfl, hrc, hrl, hsm, hown⟩, hb⟩
  · have hB1 := below_trans HB0.out hb
    have hb1 := blk_below hbk.out hb
    obtain ⟨z0, z1⟩ := cel2 hb1
    have uf := unfrozen hb1
    have F : Hid (AOwn w (readA s) _ _) := mkHid (aown_no (k := 3) hB1 (by rw [HA.out, hrc]; rfl))
    clear hrc hb hB1 hb1 HA HR HB0 hbk
    go_wp2
    refine bodyPost_ret (v := .agg #[.slice none 0 0, .int .i64 3]) ?_ rfl F.out
    simp [results, Try.results16, go_sem, z0, z1]
  · have hw0 : (w.alloc (.cells #[.slice none 0 0, .int .i64 0] 34)).heap.size = w.heap.size + 1 := by simp
    rw [hw0] at hown
    have hro : Rd w1 a (cs r) := own_rd hown
    have HB := mkHid (bytesI_any a c r w1 (by omega) hsm hro)
    have hB1 := below_trans HB0.out hb
    have hb1 := blk_below hbk.out hb
    rw [hrc] at HA
    simp only at HA
    by_cases heq : bytesP r = s
    · rw [heq] at HB
      have hss : (s.toList == s.toList) = true := by simp
      rw [if_pos heq] at HA
      have HF := mkHid (fun w' (hb2 : Below w1.heap.size w1 w') => And.intro (And.intro (below_trans hB1 hb2) (blk_below hb1 hb2)) (row_keep hown (below_grew hb2 none) (fun _ _ e => by cases e)))
      clear hown hrc hro hb hB1 hb1 hsm heq
      go_wp2_with fail
      refine HB.out.mono ?_
      rintro e w2 ⟨rfl, hb⟩
      have F0 := HF.out _ hb
      obtain ⟨z0, z1⟩ := cel2 F0.1.2
      have uf := unfrozen F0.1.2
      have hE : readA s = (r, 0) := HA.out
      have F : Hid (AOwn w (readA s) _ _) := mkHid (aown_of (a' := a) (n := r.length) (c' := c) (k := 0) F0.1.1 (by rw [hE]) (by rw [hE]) (by rw [hE]; exact F0.2))
      clear hb HF HB F0 hE HA HR HB0 hbk
      go_wp2
      refine bodyPost_ret (v := .agg #[.slice a r.length c, .int .i64 0]) ?_ rfl F.out
      simp [results, Try.results16, go_sem, z0, z1]
    · have hss := strs.bytes_ne heq
      rw [if_neg heq] at HA
      have HF := mkHid (fun w' (hb2 : Below w1.heap.size w1 w') => And.intro (below_trans hB1 hb2) (blk_below hb1 hb2))
      clear hown hrc hro hb hB1 hb1 hsm heq
      generalize bytesP r = t at *
      go_wp2_with fail
      refine HB.out.mono ?_
      rintro e w2 ⟨rfl, hb⟩
      have F0 := HF.out _ hb
      obtain ⟨z0, z1⟩ := cel2 F0.2
      have uf := unfrozen F0.2
      have F : Hid (AOwn w (readA s) _ _) := mkHid (aown_no (k := 3) F0.1 HA.out)
      clear hb HF HB F0 HA HR HB0 hbk
      go_wp2
      refine bodyPost_ret (v := .agg #[.slice none 0 0, .int .i64 3]) ?_ rfl F.out
      simp [results, Try.results16, go_sem, z0, z1]
end Go.Proofs.Ytmmmadehifajlaa.plc
