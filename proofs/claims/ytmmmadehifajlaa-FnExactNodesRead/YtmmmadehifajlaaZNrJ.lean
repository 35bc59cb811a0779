/-
  What impl.readCounted of nodes and impl.NodesRead answer and leave. Condition: a text of at most 1,048,576 bytes.
-/
import Derived.Test.YtmmmadehifajlaaZRdA
import Derived.Test.YtmmmadehifajlaaZBytA
import Derived.Test.YtmmmadehifajlaaGetB
namespace Go.Proofs.Ytmmmadehifajlaa.nod
open Go.RowKit Go.Joins
open Go.Proofs.Ytmmmadehifajlaa.base Go.Proofs.Ytmmmadehifajlaa.blk Go.Proofs.Ytmmmadehifajlaa.aid
open Go.Proofs.Ytmmmadehifajlaa.row (Rd Own OwnV appSem app_fold)
open Go.Proofs.Ytmmmadehifajlaa.strs (tx)
open Go.Proofs.Ytmmmadehifajlaa.mem (Mem Mine Off)
open Go.Proofs.Ytmmmadehifajlaa.plc (below_trans)
open Go.Proofs.Ytmmmadehifajlaa.num (G tup)
set_option linter.unusedVariables false
set_option linter.unusedSimpArgs false
attribute [local go_sem ↓] app_fold

/-- so many nodes, one behind the other -/
def rcN (s : ByteArray) : Option (List Vn) :=
  match G s 0 with
  | .error _ => none
  | .ok (n, p) => if (runI s n.toNat (p.toNat, false) []).2.2 = true then none else some (runI s n.toNat (p.toNat, false) []).1
theorem implR_is (s : ByteArray) : implR s = match rcN s with | none => none | some l => if bytesN l = s then some l else none := by
  unfold implR rcN
  cases G s 0 with
  | error c => rfl
  | ok r =>
    obtain ⟨n, p⟩ := r
    simp only
    by_cases h : (runI s n.toNat (p.toNat, false) []).2.2 = true
    · simp [h]
    · simp [h]
/-- what readCounted answers and leaves -/
def RcPost (s : ByteArray) (w : World) (e : Ending) (w' : World) : Prop :=
  (∃ T v, e = .returned (.tuple #[.slice none 0 0, .iface T v]) ∧ rcN s = none ∧ Below w.heap.size w w') ∨
   (∃ (a : Option Addr) (c : Nat) (ds : List Nd), e = .returned (.tuple #[.slice a ds.length c, .nilIface]) ∧ rcN s = some (ds.map val) ∧ ds.length ≤ 1048576 ∧ SmallN ds ∧ CapN ds ∧ Mem w [] [] (⟨59, a, ncs ds⟩ :: mines ds) w')
/-- what holds on the way -/
structure Rj (w : World) (s : ByteArray) (N P at_ : Nat) (acc : List Nd) (a : Option Addr) (c : Nat) (W : World) : Prop where
  run : runI s N (P, false) [] = runI s (N - acc.length) (at_, false) (acc.map val)
  le : acc.length ≤ N
  far : 3 * acc.length ≤ at_
  in_ : at_ ≤ s.size
  cap : CapN acc
  rn : Rn w [] acc a c w.heap.size W
theorem ds_of {acc : List Nd} {m : List Vn} (h : acc.map val = m) {P : Vn → Prop} (hp : ∀ v ∈ m, P v) : ∀ d ∈ acc, P (val d) := fun d hd => hp _ (by rw [← h]; exact List.mem_map_of_mem hd)
set_option maxRecDepth 100000 in
set_option maxHeartbeats 8000000 in
theorem rcN_any (s : ByteArray) (w : World) (hs : s.size ≤ 20000) :
    Calls Try.prog 36 #[.string s, .func (.func 37) #[] #[]] w (RcPost s w) := by
  have hsi : (s.size : Int) ≤ 20000 := by omega
  have HN := mkHid (fun wx => num.read_any s 0 wx hs (by simp))
  have HP := mkHid (fun at_ wx (h : at_ ≤ s.size) => readNode_any s at_ wx hs h)
  cases hG : G s ((0 : Nat) : Int) with
  | error c =>
    rw [hG] at HN
    have hI := mkHid (show rcN s = none by
      unfold rcN
      have : G s 0 = .error c := hG
      rw [this])
    have F : Hid (∀ T v, RcPost s w (.returned (.tuple #[.slice none 0 0, .iface T v])) w) := mkHid (fun T v => .inl ⟨T, v, rfl, hI.out, Below.refl _ _⟩)
    clear hG hI
    go_enter Try.func36, Try.ntmps36
    go_wp2_with fail
    refine (HN.out _).mono ?_
    rintro e w1 ⟨rfl, rfl⟩
    unfold tup
    go_wp2
    exact bodyPost_ret (v := .tuple #[.slice none 0 0, .iface 129 (.agg #[.int .i64 c])]) (by simp [results, Try.results36, go_sem]) rfl (F.out _ _)
  | ok r =>
    obtain ⟨z, p⟩ := r
    obtain ⟨P, rfl, _, hP, _⟩ := nbk.G_nat hG
    rw [hG] at HN
    have hPi : (P : Int) ≤ 20000 := by omega
    have hI := mkHid (show rcN s = if (runI s z.toNat (P, false) []).2.2 = true then none else some (runI s z.toNat (P, false) []).1 by
      unfold rcN
      have : G s 0 = .ok (z, (P : Int)) := hG
      rw [this]
      have e : ((P : Nat) : Int).toNat = P := by omega
      simp only [e])
    have S0 : Hid (Rj w s z.toNat P P [] none 0 w) := mkHid ⟨rfl, Nat.zero_le _, by simp, hP, by intro d hd; simp at hd, ⟨mem.start w, Nat.le_refl _, World.ownsRow_nil _ _ _ _, by simp⟩⟩
    clear hG
    go_enter Try.func36, Try.ntmps36
    go_wp2_with fail
    refine (HN.out _).mono ?_
    rintro e w1 ⟨rfl, rfl⟩
    unfold tup
    clear HN
    go_wp2_with fail
    go_loopw [7, 8, 9, 21] (fun at_ ev v i wr => ∃ (at' : Nat) (acc : List Nd) (a : Option Addr) (c : Nat), i = .int .i64 acc.length ∧ at_ = .int .i64 at' ∧ v = .slice a acc.length c ∧ Hid (Rj w s z.toNat P at' acc a c wr))
      (fun _ _ _ i _ => z.toNat - (intOf i).toNat)
    case atStart => exact ⟨P, [], none, 0, rfl, rfl, rfl, S0⟩
    case round =>
      obtain ⟨q, acc, a, c, rfl, rfl, rfl, S⟩ := hrel
      clear S0
      have hk := S.out.far
      have hq := S.out.in_
      by_cases hlt : (acc.length : Int) < z
      · obtain ⟨m, hm⟩ : ∃ m, z.toNat - acc.length = m + 1 := ⟨z.toNat - acc.length - 1, by omega⟩
        have hki : (acc.length : Int) ≤ 10000 := by omega
        have hqi : (q : Int) ≤ 20000 := by omega
        have hrun := S.out.run
        rw [hm, runI_step] at hrun
        have HR := mkHid hrun
        have hbx := mkHid (blk_new wr (.cells #[.string ⟨#[]⟩, .bool false, .int .i64 0, .slice none 0 0] 59) wr.heap.size rfl)
        have HPx := mkHid (HP.out q (wr.alloc (.cells #[.string ⟨#[]⟩, .bool false, .int .i64 0, .slice none 0 0] 59)) hq)
        clear hrun
        go_wp2_with fail
        refine HPx.out.mono ?_
        rintro e w1 ⟨⟨x0, x1, x2, ka, kc, ks, q', hpl, rfl, hkr⟩ | ⟨hpl, TT, ev, rfl⟩, hb⟩
        · have hrun := HR.out
          rw [hpl] at hrun
          simp only at hrun
          obtain ⟨_, hq1, hq2, _, _, _⟩ := nodeI_ok hpl
          simp only at hq1
          have hsz0 : (wr.alloc (.cells #[.string ⟨#[]⟩, .bool false, .int .i64 0, .slice none 0 0] 59)).heap.size = wr.heap.size + 1 := by simp
          rw [hsz0] at hkr
          have hfr := S.out.rn.fresh
          have rn1 := ((S.out.rn.next (below_alloc1 wr (.cells #[.string ⟨#[]⟩, .bool false, .int .i64 0, .slice none 0 0] 59))).next hb).grow (grew4 w1 wr.heap.size (.string x0) (.bool x1) (.int .i64 x2) (.slice ka ks.length kc)) (fun b e => by cases e; exact hfr _ (Nat.le_refl _))
          have hk2 := row_keep hkr (grew4 w1 wr.heap.size (.string x0) (.bool x1) (.int .i64 x2) (.slice ka ks.length kc)) (fun g hg e => by
            have := (hkr.lt g hg).1
            simp at e
            omega)
          have hb1 := blk_below hbx.out hb
          obtain ⟨y0, y1, y2, y3⟩ := cel4 hb1
          have uf := unfrozen hb1
          have hsz : ((((w1.setCell ⟨wr.heap.size, 0, none⟩ (.string x0)).setCell ⟨wr.heap.size, 1, none⟩ (.bool x1)).setCell ⟨wr.heap.size, 2, none⟩ (.int .i64 x2)).setCell ⟨wr.heap.size, 3, none⟩ (.slice ka ks.length kc)).heap.size = w1.heap.size := by simp
          obtain ⟨g', c', w2, happ, hown, hg⟩ := appN _ w.heap.size (.slice a acc.length c) acc.length acc (x0, x1, x2, ka, kc, ks) rfl rn1.row rn1.mem.below.size (by omega)
          rw [hsz] at happ
          have rn2 := rn1.push (X := wr.heap.size) (d := (x0, x1, x2, ka, kc, ks)) hk2 (S.out.rn.mem.below.size) (fun b hb => hfr b (by omega)) hown hg
          have hkc := (cap_of hkr).2
          have hl2 : (acc ++ [(x0, x1, x2, ka, kc, ks)]).length = acc.length + 1 := by simp
          have N1 : Hid (Rj w s z.toNat P q' (acc ++ [(x0, x1, x2, ka, kc, ks)]) (some ⟨g', 0, none⟩) c' w2) := mkHid ⟨by
            rw [hrun, hl2, List.map_append]
            have e : z.toNat - (acc.length + 1) = m := by omega
            rw [e]
            rfl, by rw [hl2]; omega, by rw [hl2]; omega, hq2, fun d hd => by
            rcases List.mem_append.1 hd with hd | hd
            · exact S.out.cap d hd
            · simp at hd
              subst hd
              exact hkc, rn2⟩
          have hlh := mkHid hl2
          clear hpl hb hrun rn1 hk2 hkr hb1 hsz hown hg rn2 hkc hfr hsz0 S HR HPx hbx hl2
          go_wp2
          exact ⟨⟨q', acc ++ [(x0, x1, x2, ka, kc, ks)], some ⟨g', 0, none⟩, c', by rw [hlh.out]; go_num, rfl, by rw [hlh.out], N1⟩, by simp [intOf]; omega⟩
        · have hno : rcN s = none := by
            rw [hI.out, if_pos]
            rw [HR.out]
            generalize nodeI s (q, false) = pr at *
            obtain ⟨pp, q', f⟩ := pr
            have hf : f = true := hpl
            subst hf
            rw [runI_bad]
          have hb1 := blk_below hbx.out hb
          obtain ⟨y0, y1, y2, y3⟩ := cel4 hb1
          have uf := unfrozen hb1
          have hB := S.out.rn.mem.below
          have hX := hB.size
          have F : Hid (RcPost s w (.returned (.tuple #[.slice none 0 0, .iface TT ev])) _) := mkHid (.inl ⟨TT, ev, rfl, hno, below4r (below_trans (hB.alloc hX (.cells #[.string ⟨#[]⟩, .bool false, .int .i64 0, .slice none 0 0] 59)) hb) hX (.string ⟨#[]⟩) (.bool false) (.int .i64 0) (.slice none 0 0)⟩)
          clear S hb hpl HR hno hb1 hX HPx hbx hB
          go_wp2
          refine bodyPost_ret (v := .tuple #[.slice none 0 0, .iface TT ev]) ?_ rfl F.out
          simp [results, Try.results36, go_sem]
      · have hkN : z.toNat - acc.length = 0 := by omega
        have hrun := S.out.run
        rw [hkN] at hrun
        have hrun2 : runI s z.toNat (P, false) [] = (acc.map val, (q, false)) := hrun
        obtain ⟨m, hm1, hm2, _, _, hm3⟩ := runI_ok s z.toNat P [] (acc.map val) q hrun2 hP
        simp only [List.nil_append] at hm1
        have hge : ((z : Int) ≤ (acc.length : Int)) := by omega
        have hsm : SmallN acc := fun d hd => by
          have h3 := ds_of hm1 hm3 d hd
          obtain ⟨h4, h5, h6⟩ := h3
          simp only [val] at h4 h5 h6
          exact ⟨by omega, by omega, fun t ht => by rw [h6 t ht]; omega⟩
        have F : Hid (RcPost s w (.returned (.tuple #[.slice a acc.length c, .nilIface])) wr) := mkHid (.inr ⟨a, c, acc, rfl, by rw [hI.out, hrun2]; simp, by omega, hsm, S.out.cap, S.out.rn.done⟩)
        clear hI S hrun hrun2 hm3 hsm hm2 hkN hm1
        go_wp2
        exact bodyPost_ret (v := .tuple #[.slice a acc.length c, .nilIface]) (by simp [results, Try.results36, go_sem]) rfl F.out
set_option maxRecDepth 100000 in
set_option maxHeartbeats 4000000 in
theorem readI_any (s : ByteArray) (w : World) (hs : s.size ≤ 1048576) :
    Calls Try.prog 12 #[.string s] w (NPost w (readA s)) := by
  have hb0 := blk_new w (.cells #[.slice none 0 0, .int .i64 0] 28) w.heap.size rfl
  have HB0 := mkHid (below_alloc1 w (.cells #[.slice none 0 0, .int .i64 0] 28))
  have hsi : (s.size : Int) ≤ 1048576 := by omega
  by_cases h1 : 20000 < s.size
  · have F : Hid (NPost w (readA s) _ _) := mkHid (npost_new (k := 2) (by unfold readA; rw [if_pos h1]))
    have h1i : (20000 : Int) < (s.size : Int) := by omega
    clear hb0 HB0
    go_enter Try.func12, Try.ntmps12
    go_wp2
    refine bodyPost_ret (v := .agg #[.slice none 0 0, .int .i64 2]) ?_ rfl F.out
    simp [results, Try.results12, go_sem]
  have h1i : (s.size : Int) ≤ 20000 := by omega
  have HA := mkHid (agree s (by omega))
  rw [implR_is] at HA
  have HR := mkHid (rcN_any s (w.alloc (.cells #[.slice none 0 0, .int .i64 0] 28)) (by omega))
  have hbk := mkHid hb0
  clear hb0
  go_enter Try.func12, Try.ntmps12
  go_wp2_with fail
  refine HR.out.mono ?_
  rintro e w1 (⟨TT, ev, rfl, hrc, hb⟩ | ⟨a, c, ds, rfl, hrc, hrl, hsm, hcap, hM⟩)
  · have hB1 := below_trans HB0.out hb
    have hb1 := blk_below hbk.out hb
    obtain ⟨z0, z1⟩ := cel2 hb1
    have uf := unfrozen hb1
    have F : Hid (NPost w (readA s) _ _) := mkHid (npost_no (k := 3) hB1 (by rw [HA.out, hrc]; rfl))
    clear hrc hb hB1 hb1 HA HR HB0 hbk
    go_wp2
    refine bodyPost_ret (v := .agg #[.slice none 0 0, .int .i64 3]) ?_ rfl F.out
    simp [results, Try.results12, go_sem, z0, z1]
  · have hro : RdN w1 a ds := ⟨hM.o0.rd, fun d hd => (hM.o ⟨9, d.2.2.2.1, tx d.2.2.2.2.2⟩ (.tail _ (List.mem_map.2 ⟨d, hd, rfl⟩))).rd⟩
    have HB := mkHid (bytesI_any a c ds w1 hrl hsm hcap hro)
    rw [hrc] at HA
    simp only at HA
    have HF := mkHid (fun w' (hb2 : Below w1.heap.size w1 w') => And.intro (hM.next hb2) (blk_below (blk_below hbk.out hM.below) hb2))
    by_cases heq : bytesN (ds.map val) = s
    · rw [heq] at HB
      have hss : (s.toList == s.toList) = true := by simp
      rw [if_pos heq] at HA
      clear hM hrc hro hsm heq hcap
      go_wp2_with fail
      refine HB.out.mono ?_
      rintro e w2 ⟨rfl, hb⟩
      have F0 := HF.out _ hb
      obtain ⟨z0, z1⟩ := cel2 F0.2
      have uf := unfrozen F0.2
      have hE : readA s = (ds.map val, 0) := HA.out
      have F : Hid (NPost w (readA s) (.returned (.agg #[.slice a ds.length c, .int .i64 0])) _) := mkHid ⟨a, c, ds, by rw [hE], by rw [hE], mem_low2 F0.1 HB0.out (Nat.le_refl _) (by simp) (.slice a ds.length c) (.int .i64 0)⟩
      clear hb HF HB F0 hE HA HR HB0 hbk
      go_wp2
      refine bodyPost_ret (v := .agg #[.slice a ds.length c, .int .i64 0]) ?_ rfl F.out
      simp [results, Try.results12, go_sem, z0, z1]
    · have hss := strs.bytes_ne heq
      rw [if_neg heq] at HA
      clear hM hrc hro hsm heq hcap
      generalize bytesN (ds.map val) = t at *
      go_wp2_with fail
      refine HB.out.mono ?_
      rintro e w2 ⟨rfl, hb⟩
      have F0 := HF.out _ hb
      obtain ⟨z0, z1⟩ := cel2 F0.2
      have uf := unfrozen F0.2
      have F : Hid (NPost w (readA s) _ _) := mkHid (npost_no (k := 3) (HB0.out.trans (F0.1.below.mono HB0.out.size)) HA.out)
      clear hb HF HB F0 HA HR HB0 hbk
      go_wp2
      refine bodyPost_ret (v := .agg #[.slice none 0 0, .int .i64 3]) ?_ rfl F.out
      simp [results, Try.results12, go_sem, z0, z1]
end Go.Proofs.Ytmmmadehifajlaa.nod
