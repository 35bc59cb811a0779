/-
  What spec.DriveCrash and impl.DriveCrash answer and leave. Conditions: at most 1,048,576 files and numbers, which lie in memory, of texts of at most 1,048,576 bytes.
-/
import Derived.Test.YtfckgpmphcadeaaDrvCr
namespace Go.Proofs.Ytfckgpmphcadeaa.drv
open Go.RowKit Go.Joins Go.Sort
open Go.Proofs.Ytfckgpmphcadeaa.base Go.Proofs.Ytfckgpmphcadeaa.blk Go.Proofs.Ytfckgpmphcadeaa.aid
open Go.Proofs.Ytfckgpmphcadeaa.row (Rd Own OwnV)
open Go.Proofs.Ytfckgpmphcadeaa.rwStored (cs)
open Go.Proofs.Ytfckgpmphcadeaa.ints (ix)
set_option linter.unusedVariables false

/-- a drive that is put into the answer's place -/
theorem dpost_put {w w1 : World} {va : Option Addr} {n vc B : Nat} {l : List File} {r : Int} (x y : Value) (hB : w.heap.size ≤ B) (ho : OwnV 39 w1 va (cs l)) (hf : ∀ b o s, va = some ⟨b, o, s⟩ → B + 1 ≤ b) (hb : Below w.heap.size w w1) (hn : n = l.length) (hc : n ≤ vc) :
    DPost w l r (.returned (.agg #[.slice va n vc, .int .i64 r])) ((w1.setCell ⟨B, 0, none⟩ x).setCell ⟨B, 1, none⟩ y) := by
  subst hn
  have hne : ∀ b o s, va = some ⟨b, o, s⟩ → b ≠ B := fun b o s e => by have := hf b o s e; omega
  exact ⟨va, vc, rfl, own_off (p := ⟨B, 1, none⟩) (own_off (p := ⟨B, 0, none⟩) ho hne) hne, fun b o s e => by have := hf b o s e; omega, below_two hb hB hb.size _ _, hc⟩
theorem dpost_zero {w w1 : World} {B : Nat} (x y : Value) (hB : w.heap.size ≤ B) (hb : Below w.heap.size w w1) : DPost w [] 0 (.returned (.agg #[.slice none 0 0, .int .i64 0])) ((w1.setCell ⟨B, 0, none⟩ x).setCell ⟨B, 1, none⟩ y) :=
  dpost_put (va := none) (vc := 0) x y hB (.inl rfl) (fun b o s e => by cases e) hb rfl (Nat.le_refl _)
theorem right_files {l : List File} {r : Int} (h : driveB l r = true) : ∀ f ∈ l, f.2.1.size ≤ 20000 ∧ 0 ≤ f.2.2 ∧ f.2.2 ≤ (f.2.1.size : Int) := fun f hf =>
  let q := filesB_all none l (driveB_parts h).2.2.2.1 f hf
  ⟨q.2.1, q.2.2.1, q.2.2.2⟩

set_option maxRecDepth 100000 in
set_option maxHeartbeats 4000000 in
theorem crashI_any (a ak : Option Addr) (c ck : Nat) (l : List File) (r : Int) (ks : List Int) (w : World) (hl : l.length ≤ 1048576) (hk : ks.length ≤ 1048576) (hs : Small l) (hr : Rd w a (cs l)) (hrk : Rd w ak (ix ks)) :
    Calls Try.prog 15 #[.agg #[.slice a l.length c, .int .i64 r], .slice ak ks.length ck] w (DPost w (crashD l r ks).1 (crashD l r ks).2) := by
  have S0 := mkHid ((((mem.startR hrk).var (.cells #[.slice a l.length c, .int .i64 r] 25)).var (.cells #[.slice none 0 0, .int .i64 0] 25)))
  have hz : (w.alloc (.cells #[.slice a l.length c, .int .i64 r] 25)).heap.size = w.heap.size + 1 := by simp
  rw [hz] at S0
  have HA := mkHid hr
  by_cases h1 : 400 < ks.length
  · have h1i : 400 < (ks.length : Int) := by omega
    have E : crashD l r ks = ([], 0) := by unfold crashD; rw [if_pos h1]
    rw [E]
    clear hr hrk hs E
    go_enter Try.func15, Try.ntmps15
    go_wp2
    exact bodyPost_ret (v := .agg #[.slice none 0 0, .int .i64 0]) (by simp [results, Try.results15, go_sem]) rfl ⟨none, 0, rfl, .inl rfl, fun b o s e => by simp at e, rwStored.below2 _ _ _, Nat.le_refl _⟩
  have h1i : (ks.length : Int) ≤ 400 := by omega
  have HR := mkHid (fun wx (hx : Rd wx a (cs l)) => rightI_any a c l r wx hl hs hx)
  have HC := mkHid (copy_any a c l r _ hl hs (HA.out.below S0.out.below))
  unfold CPost at HC
  clear hr hrk hs
  have hBB : Hid (crashD l r ks = if driveB l r = true then (keepL l ks, r) else (l, r)) := mkHid (by unfold crashD; rw [if_neg h1])
  generalize crashD l r ks = o at *
  go_enter Try.func15, Try.ntmps15
  go_wp2_with fail
  refine HC.out.mono ?_
  rintro e w1 ⟨v, rfl, hown, hb1⟩
  obtain ⟨va, vc, rfl, ho, hfr⟩ := mem.own_of hown
  have hcap : l.length ≤ vc := own_cap hown
  have S1 := mkHid ((S0.out.own hb1 ho hfr).var (.cells #[.slice va l.length vc, .int .i64 r] 25))
  have hvf : ∀ b o s, va = some ⟨b, o, s⟩ → w.heap.size + 2 ≤ b := fun b o s e => by have := hfr b o s e; simp at this; omega
  obtain ⟨c0, c1⟩ := cel2 S1.out.b2
  clear hb1 ho hown HC S0 hfr
  go_wp2_with fail
  refine (HR.out _ (HA.out.below S1.out.below)).mono ?_
  rintro e w2 ⟨rfl, hb2⟩
  have S2 := mkHid (S1.out.next hb2)
  obtain ⟨d0, d1⟩ := cel2 S2.out.b0
  obtain ⟨e0, e1⟩ := cel2 S2.out.b1
  have ef : ∀ j, w2.frozen? ⟨w.heap.size + 1, j, none⟩ = false := unfrozen S2.out.b1
  clear hb2 S1 c0 c1 HR
  cases hd : driveB l r with
  | false =>
    have E : o = (l, r) := by rw [hBB.out, hd]; rfl
    subst E
    have HP := mkHid (dpost_put (r := r) (.slice va l.length vc) (.int .i64 r) (B := w.heap.size + 1) (by omega) S2.out.o0 (fun b o s e => by have := hvf b o s e; omega) S2.out.below rfl hcap)
    clear hBB
    cases va with
    | none =>
      go_wp2
      refine bodyPost_ret (v := .agg #[.slice none l.length vc, .int .i64 r]) ?_ rfl ?_
      rotate_left
      · exact HP.out
      · simp [results, Try.results15, go_sem, e0, e1]
    | some ad =>
      go_wp2
      refine bodyPost_ret (v := .agg #[.slice (some ad) l.length vc, .int .i64 r]) ?_ rfl ?_
      rotate_left
      · exact HP.out
      · simp [results, Try.results15, go_sem, e0, e1]
  | true =>
    have E : o = (keepL l ks, r) := by rw [hBB.out, hd]; rfl
    subst E
    have HFs := mkHid (right_files hd)
    have hkl2 := keepL_len l ks
    clear hBB e0 e1 ef
    go_wp2_with fail
    go_loopw [6, 7, 8, 22] (fun i0 f mr i wr => ∃ k : Nat, k ≤ l.length ∧ i = .int .i64 k ∧ Hid (mem.Mem w [(w1.heap.size, .cells #[.slice va l.length vc, .int .i64 r] 25), (w.heap.size + 1, .cells #[.slice none 0 0, .int .i64 0] 25), (w.heap.size, .cells #[.slice a l.length c, .int .i64 r] 25)] [(ak, ix ks)] [⟨39, va, cs (tornL l ks k)⟩] wr))
      (fun _ _ _ i _ => l.length - (intOf i).toNat)
    case atStart =>
      refine ⟨0, Nat.zero_le _, rfl, ?_⟩
      rw [tornL_zero]
      exact S2
    case round =>
      obtain ⟨k, hkl, rfl, hS⟩ := hrel
      clear d0 d1
      by_cases hlt : k < l.length
      · have hlti : (k : Int) < (l.length : Int) := by omega
        obtain ⟨⟨x0, x1, x2⟩, hx⟩ : ∃ y, l[k]? = some y := ⟨_, List.getElem?_eq_getElem hlt⟩
        have hx' : (tornL l ks k)[k]? = some (x0, x1, x2) := by rw [tornL_at l ks k hlt]; exact hx
        obtain ⟨g, rfl, hO⟩ := own_some hS.out.o0 (by rw [tornL_len l ks k hkl]; omega)
        obtain ⟨e0, e1, e2⟩ := rwStored.cs_at _ _ _ hx'
        have d0 := hO.cell e0
        have d1 := hO.cell e1
        have d2 := hO.cell e2
        obtain ⟨q1, q2, q3⟩ := HFs.out _ (List.mem_of_getElem? hx)
        simp only at d0 d1 d2 q1 q2 q3
        have HNx := mkHid (tornL_next l ks k _ hx)
        have HTn := mkHid (fun z wx => torn_any x0 x1 x2 z wx (by omega) q2 q3)
        have HF : Hid (∀ (f' : File) (V : World), Below wr.heap.size wr V → keepF (x0, x1, x2) (kk ks k) = f' → mem.Mem w [(w1.heap.size, .cells #[.slice (some ⟨g, 0, none⟩) l.length vc, .int .i64 r] 25), (w.heap.size + 1, .cells #[.slice none 0 0, .int .i64 0] 25), (w.heap.size, .cells #[.slice a l.length c, .int .i64 r] 25)] [(ak, ix ks)] [⟨39, some ⟨g, 0, none⟩, cs (tornL l ks (k + 1))⟩] (((V.setCell ⟨g, k * 3, none⟩ (.string f'.1)).setCell ⟨g, k * 3 + 1, none⟩ (.string f'.2.1)).setCell ⟨g, k * 3 + 2, none⟩ (.int .i64 f'.2.2))) := mkHid (fun f' V hV he => by
          have h1 := set3 (k := k) (x0 := f'.1) (x1 := f'.2.1) (x2 := f'.2.2) (Own.below hO hV) (by rw [tornL_len l ks k hkl]; exact hlt)
          rw [show (f'.1, f'.2.1, f'.2.2) = f' from rfl, ← he, HNx.out] at h1
          rw [← he]
          exact (hS.out.next hV).mark (grew3 _ _ _ _ _ _ _ _) (fun b e => by cases e; exact ⟨fun e2 => by have := rwStored.cs_zero e2; have h3 := tornL_len l ks k hkl; rw [this] at h3; simp at h3; omega, 0, none, rfl⟩) (.inr ⟨g, rfl, h1⟩) (fun _ e2 => by have := rwStored.cs_zero e2; have h3 := tornL_len l ks k hkl; rw [this] at h3; simp at h3; omega))
        have HRw : Hid (∀ V, Below wr.heap.size wr V → V.cell? ⟨g, k * 3, none⟩ = some (.string x0) ∧ V.cell? ⟨g, k * 3 + 1, none⟩ = some (.string x1) ∧ V.cell? ⟨g, k * 3 + 2, none⟩ = some (.int .i64 x2) ∧ (∀ j, V.frozen? ⟨g, j, none⟩ = false) ∧ V.cell? ⟨w1.heap.size, 0, none⟩ = some (.slice (some ⟨g, 0, none⟩) l.length vc)) := mkHid (fun V hV => ⟨(Own.below hO hV).cell e0, (Own.below hO hV).cell e1, (Own.below hO hV).cell e2, (Own.below hO hV).free, (cel2 (blk_below hS.out.b0 hV)).1⟩)
        have BV := mkHid (below_alloc1 wr (.cells #[.string x0, .string x1, .int .i64 x2] 39))
        have KV := mkHid (blk_new wr (.cells #[.string x0, .string x1, .int .i64 x2] 39) wr.heap.size rfl)
        obtain ⟨v0, v1, v2⟩ := cel3 KV.out
        have vc0 := (HRw.out _ BV.out).2.2.2.2
        have hne1 : g ≠ wr.heap.size := by have := hO.lt; omega
        have hne2 : g ≠ w1.heap.size := fun e => ((hS.out.new _ (.head _) (fun e2 => by have := rwStored.cs_zero e2; have h3 := tornL_len l ks k hkl; rw [this] at h3; simp at h3; omega) g 0 none rfl).2.1 (w1.heap.size, _) (.head _)) e.symm
        by_cases hA : k < ks.length
        · obtain ⟨z, hz⟩ : ∃ y, ks[k]? = some y := ⟨_, List.getElem?_eq_getElem hA⟩
          obtain ⟨gk, ok, rfl, z0⟩ := ix_at (hS.out.r0.alloc (.cells #[.string x0, .string x1, .int .i64 x2] 39)) hz
          have HKz := mkHid (show keepF (x0, x1, x2) (kk ks k) = keepF (x0, x1, x2) z by unfold kk; rw [hz]; rfl)
          have HT1 := mkHid (fun wx => HTn.out z wx)
          generalize keepF (x0, x1, x2) z = f' at *
          have hAi : (k : Int) < (ks.length : Int) := by omega
          clear hz hx hx' e0 e1 e2 HNx HTn hO hS HFs hd S2
          go_wp2_with fail
          generalize wr.alloc (.cells #[.string x0, .string x1, .int .i64 x2] 39) = V at *
          go_region_held3 (fun w' => w'.cell? ⟨w1.heap.size, 0, none⟩ = some (.slice (some ⟨g, 0, none⟩) l.length vc) ∧ w'.cell? ⟨wr.heap.size, 0, none⟩ = some (.string x0) ∧ w'.cell? ⟨wr.heap.size, 1, none⟩ = some (.string x1) ∧ w'.cell? ⟨wr.heap.size, 2, none⟩ = some (.int .i64 x2)) (go_keep)
            ((go_at_call 66; refine Calls.mono (HT1.out _) ?_; rintro e w3 ⟨rfl, hb3⟩; have B3 := mkHid (BV.out.trans ((re (w := V) hb3 rfl rfl rfl rfl).mono BV.out.size)); obtain ⟨r0, r1, r2, rf, rc⟩ := HRw.out _ B3.out; obtain ⟨f0, f1, f2⟩ := cel3 (blk_below KV.out (re (w := V) hb3 rfl rfl rfl rfl)); clear hb3))
          go_wp2
          go_roundw
          case rel => exact ⟨k + 1, by omega, by go_num, mkHid ((HF.out _ _ B3.out HKz.out).same rfl rfl rfl rfl)⟩
          case measure => simp [intOf]; omega
        · have HKz := mkHid (show keepF (x0, x1, x2) (kk ks k) = keepF (x0, x1, x2) 0 by unfold kk; rw [List.getElem?_eq_none (by omega)]; rfl)
          have HT1 := mkHid (fun wx => HTn.out 0 wx)
          generalize keepF (x0, x1, x2) 0 = f' at *
          have hAi : ¬ (k : Int) < (ks.length : Int) := by omega
          clear hx hx' e0 e1 e2 HNx HTn hO hS HFs hd S2
          go_wp2_with fail
          generalize wr.alloc (.cells #[.string x0, .string x1, .int .i64 x2] 39) = V at *
          go_region_held3 (fun w' => w'.cell? ⟨w1.heap.size, 0, none⟩ = some (.slice (some ⟨g, 0, none⟩) l.length vc) ∧ w'.cell? ⟨wr.heap.size, 0, none⟩ = some (.string x0) ∧ w'.cell? ⟨wr.heap.size, 1, none⟩ = some (.string x1) ∧ w'.cell? ⟨wr.heap.size, 2, none⟩ = some (.int .i64 x2)) (go_keep)
            ((go_at_call 66; refine Calls.mono (HT1.out _) ?_; rintro e w3 ⟨rfl, hb3⟩; have B3 := mkHid (BV.out.trans ((re (w := V) hb3 rfl rfl rfl rfl).mono BV.out.size)); obtain ⟨r0, r1, r2, rf, rc⟩ := HRw.out _ B3.out; obtain ⟨f0, f1, f2⟩ := cel3 (blk_below KV.out (re (w := V) hb3 rfl rfl rfl rfl)); clear hb3))
          go_wp2
          go_roundw
          case rel => exact ⟨k + 1, by omega, by go_num, mkHid ((HF.out _ _ B3.out HKz.out).same rfl rfl rfl rfl)⟩
          case measure => simp [intOf]; omega
      · obtain rfl : k = l.length := by omega
        rw [tornL_all] at hS
        obtain ⟨d0, d1⟩ := cel2 hS.out.b0
        obtain ⟨e0, e1⟩ := cel2 hS.out.b1
        have ef : ∀ j, wr.frozen? ⟨w.heap.size + 1, j, none⟩ = false := unfrozen hS.out.b1
        have HP := mkHid (dpost_put (n := l.length) (r := r) (.slice va l.length vc) (.int .i64 r) (B := w.heap.size + 1) (by omega) hS.out.o0 (fun b o s e => by have := hvf b o s e; omega) hS.out.below hkl2.symm hcap)
        cases va with
        | none =>
          go_wp2
          refine bodyPost_ret (v := .agg #[.slice none l.length vc, .int .i64 r]) ?_ rfl ?_
          rotate_left
          · exact HP.out
          · simp [results, Try.results15, go_sem, e0, e1]
        | some ad =>
          go_wp2
          refine bodyPost_ret (v := .agg #[.slice (some ad) l.length vc, .int .i64 r]) ?_ rfl ?_
          rotate_left
          · exact HP.out
          · simp [results, Try.results15, go_sem, e0, e1]
end Go.Proofs.Ytfckgpmphcadeaa.drv
