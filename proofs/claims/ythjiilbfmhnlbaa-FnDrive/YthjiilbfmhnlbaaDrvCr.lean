/-
  What spec.l08Crash, spec.DriveCrash and impl.DriveCrash answer and leave. Conditions: at most 1,048,576 files and numbers, which lie in memory, of texts of at most 1,048,576 bytes.
-/
import Derived.Test.YthjiilbfmhnlbaaDrvT
import Derived.Test.YthjiilbfmhnlbaaDrvL
import Derived.Test.YthjiilbfmhnlbaaIntM
namespace Go.Proofs.Ythjiilbfmhnlbaa.drv
open Go.RowKit Go.Joins Go.Sort
open Go.Proofs.Ythjiilbfmhnlbaa.base Go.Proofs.Ythjiilbfmhnlbaa.blk Go.Proofs.Ythjiilbfmhnlbaa.aid
open Go.Proofs.Ythjiilbfmhnlbaa.row (Rd Own OwnV)
open Go.Proofs.Ythjiilbfmhnlbaa.rwStored (cs)
open Go.Proofs.Ythjiilbfmhnlbaa.ints (ix)
set_option linter.unusedVariables false

theorem ix_at {w : World} {a : Option Addr} {ks : List Int} (h : Rd w a (ix ks)) {i : Nat} {z : Int} (hz : ks[i]? = some z) : ∃ b off, a = some ⟨b, off, none⟩ ∧ w.cell? ⟨b, off + i, none⟩ = some (.int .i64 z) :=
  h i (.int .i64 z) (by unfold ix; simp [hz])
/-- what keep says at a place -/
def kk (ks : List Int) (i : Nat) : Int := (ks[i]?).getD 0
theorem keepL_len : ∀ (l : List File) (ks : List Int), (keepL l ks).length = l.length
  | [], ks => by simp [keepL]
  | f :: r, [] => by simp [keepL, keepL_len r []]
  | f :: r, k :: ks => by simp [keepL, keepL_len r ks]
theorem keepL_at : ∀ (l : List File) (ks : List Int) (i : Nat) (f : File), l[i]? = some f → (keepL l ks)[i]? = some (keepF f (kk ks i))
  | [], ks, i, f, h => by simp at h
  | g :: r, [], 0, f, h => by simp at h; subst h; rfl
  | g :: r, k :: ks, 0, f, h => by simp at h; subst h; rfl
  | g :: r, [], i + 1, f, h => by
    have := keepL_at r [] i f (by simpa using h)
    simpa [keepL, kk] using this
  | g :: r, k :: ks, i + 1, f, h => by
    have := keepL_at r ks i f (by simpa using h)
    simpa [keepL, kk] using this
/-- the first k files are as they stay -/
def tornL (l : List File) (ks : List Int) (k : Nat) : List File := (keepL l ks).take k ++ l.drop k
theorem tornL_zero (l : List File) (ks : List Int) : tornL l ks 0 = l := by simp [tornL]
theorem tornL_all (l : List File) (ks : List Int) : tornL l ks l.length = keepL l ks := by
  unfold tornL
  rw [List.take_of_length_le (by rw [keepL_len]; exact Nat.le_refl _)]
  simp
theorem tornL_len (l : List File) (ks : List Int) (k : Nat) (h : k ≤ l.length) : (tornL l ks k).length = l.length := by simp [tornL, keepL_len]; omega
theorem tornL_at (l : List File) (ks : List Int) (k : Nat) (h : k < l.length) : (tornL l ks k)[k]? = l[k]? := by
  unfold tornL
  rw [List.getElem?_append_right (by simp [keepL_len]; omega)]
  simp [keepL_len]
  congr 1
  omega
theorem tornL_next (l : List File) (ks : List Int) (k : Nat) (f : File) (h : l[k]? = some f) : (tornL l ks k).set k (keepF f (kk ks k)) = tornL l ks (k + 1) := by
  have hk : k < l.length := (List.getElem?_eq_some_iff.1 h).1
  unfold tornL
  have e2 : ((keepL l ks).take k).length = k := by simp [keepL_len]; omega
  rw [List.set_append_right _ _ (by rw [e2]; exact Nat.le_refl _), e2, Nat.sub_self, List.drop_eq_getElem_cons hk, List.set_cons_zero, List.take_add_one, keepL_at l ks k f h]
  simp
/-- one file of a row of our own is written -/
theorem set3 {w : World} {g k : Nat} {l : List File} {x0 x1 : ByteArray} {x2 : Int} (h : Own 39 w g (cs l)) (hk : k < l.length) :
    Own 39 (((w.setCell ⟨g, k * 3, none⟩ (.string x0)).setCell ⟨g, k * 3 + 1, none⟩ (.string x1)).setCell ⟨g, k * 3 + 2, none⟩ (.int .i64 x2)) g (cs (l.set k (x0, x1, x2))) := by
  have hl : (cs l).length = 3 * l.length := rwStored.cs_len l
  have h3 := (((h.set (k * 3) (by omega) (.string x0)).set (k * 3 + 1) (by simp; omega) (.string x1)).set (k * 3 + 2) (by simp; omega) (.int .i64 x2))
  rw [rwStored.cs_set _ _ _ _ _ hk] at h3
  exact h3
theorem grew3 (w : World) (g i j k : Nat) (x y z : Value) : w.grownBy (((w.setCell ⟨g, i, none⟩ x).setCell ⟨g, j, none⟩ y).setCell ⟨g, k, none⟩ z) (some g) :=
  grew_grew (grew_grew (grew_cell w g i x) (grew_cell _ g j y)) (grew_cell _ g k z)
theorem own_some {w : World} {a : Option Addr} {l : List File} (h : OwnV 39 w a (cs l)) (hl : 0 < l.length) : ∃ g, a = some ⟨g, 0, none⟩ ∧ Own 39 w g (cs l) := by
  rcases h with h | h
  · have := rwStored.cs_zero h
    subst this
    simp at hl
  · exact h

theorem own_cap {w : World} {base e size n c : Nat} {a : Option Addr} {xs : List Value} (h : w.ownsRow base e size (.slice a n c) n xs) : n ≤ c := by
  obtain ⟨_, h2⟩ := h
  rcases h2 with ⟨e, h0⟩ | ⟨g', cap', cur, e, _, _, h3, _⟩
  · omega
  · simp at e
    omega
set_option maxRecDepth 100000 in
set_option maxHeartbeats 2000000 in
theorem crashL_any (a ak : Option Addr) (c ck : Nat) (l : List File) (r : Int) (ks : List Int) (w : World) (hl : l.length ≤ 1048576) (hk : ks.length ≤ 1048576) (hf : ∀ f ∈ l, f.2.1.size ≤ 20000 ∧ 0 ≤ f.2.2 ∧ f.2.2 ≤ (f.2.1.size : Int)) (hr : Rd w a (cs l)) (hrk : Rd w ak (ix ks)) :
    Calls Try.prog 70 #[.agg #[.slice a l.length c, .int .i64 r], .slice ak ks.length ck] w (DPost w (keepL l ks) r) := by
  have S0 := mkHid (((mem.startR hrk).var (.cells #[.slice a l.length c, .int .i64 r] 25)).var (.cells #[.slice none 0 0, .int .i64 0] 25))
  have hz : (w.alloc (.cells #[.slice a l.length c, .int .i64 r] 25)).heap.size = w.heap.size + 1 := by simp
  rw [hz] at S0
  have HC := mkHid (copyS_any a c l r ((w.alloc (.cells #[.slice a l.length c, .int .i64 r] 25)).alloc (.cells #[.slice none 0 0, .int .i64 0] 25)) hl ((hr.alloc _).alloc _))
  unfold CPost at HC
  clear hr hrk hz
  go_enter Try.func70, Try.ntmps70
  go_wp2_with fail
  refine HC.out.mono ?_
  rintro e w1 ⟨v, rfl, hown, hb1⟩
  obtain ⟨va, vc, rfl, ho, hfr⟩ := mem.own_of hown
  have hcap : l.length ≤ vc := own_cap hown
  have S1 := mkHid ((S0.out.own hb1 ho hfr).var (.cells #[.slice va l.length vc, .int .i64 r] 25))
  have hvf : ∀ b o s, va = some ⟨b, o, s⟩ → w.heap.size ≤ b := fun b o s e => by have := hfr b o s e; simp at this; omega
  clear hb1 ho hown HC S0 hfr
  have hw1 := (Array.getElem?_eq_some_iff.1 S1.out.b1).1
  go_wp2_with fail
  go_loopw [6, 7, 8] (fun i f kq wr => ∃ k : Nat, k ≤ l.length ∧ i = .int .i64 k ∧ Hid (mem.Mem w [(w1.heap.size, .cells #[.slice va l.length vc, .int .i64 r] 25), (w.heap.size + 1, .cells #[.slice none 0 0, .int .i64 0] 25), (w.heap.size, .cells #[.slice a l.length c, .int .i64 r] 25)] [(ak, ix ks)] [⟨39, va, cs (tornL l ks k)⟩] wr))
    (fun i _ _ _ => l.length - (intOf i).toNat)
  case atStart =>
    refine ⟨0, Nat.zero_le _, rfl, ?_⟩
    rw [tornL_zero]
    exact S1
  case round =>
    obtain ⟨k, hkl, rfl, hS⟩ := hrel
    obtain ⟨c0, c1⟩ := cel2 hS.out.b0
    by_cases hlt : k < l.length
    · have hlti : (k : Int) < (l.length : Int) := by omega
      obtain ⟨⟨x0, x1, x2⟩, hx⟩ : ∃ y, l[k]? = some y := ⟨_, List.getElem?_eq_getElem hlt⟩
      have hx' : (tornL l ks k)[k]? = some (x0, x1, x2) := by rw [tornL_at l ks k hlt]; exact hx
      obtain ⟨g, rfl, hO⟩ := own_some hS.out.o0 (by rw [tornL_len l ks k hkl]; omega)
      obtain ⟨e0, e1, e2⟩ := rwStored.cs_at _ _ _ hx'
      have d0 := hO.cell e0
      have d1 := hO.cell e1
      have d2 := hO.cell e2
      have df := hO.free
      obtain ⟨q1, q2, q3⟩ := hf _ (List.mem_of_getElem? hx)
      simp only at d0 d1 d2 q1 q2 q3
      have q1i : (x1.size : Int) ≤ 20000 := by omega
      obtain ⟨m2, rfl⟩ : ∃ m2 : Nat, x2 = (m2 : Int) := ⟨x2.toNat, by omega⟩
      have hb := more_bd (kk ks k) ((x1.size : Int) - (m2 : Int)) (by omega)
      have E := mkHid (fun m h hm => keepF_nat x0 x1 (m2 : Int) (kk ks k) m h hm)
      have HNx := mkHid (tornL_next l ks k _ hx)
      have hgl := hO.lt
      have cA := fun o => (cel2 (blk_old hS.out.b0 o)).1
      have dA0 := fun o => (Own.below hO (below_alloc1 wr o)).cell e0
      have dA1 := fun o => (Own.below hO (below_alloc1 wr o)).cell e1
      have dA2 := fun o => (Own.below hO (below_alloc1 wr o)).cell e2
      have dAf := fun o => (Own.below hO (below_alloc1 wr o)).free
      simp only at dA0 dA1 dA2
      have HF : Hid (∀ (m : Nat) (V : World), Below wr.heap.size wr V → keepF (x0, x1, (m2 : Int)) (kk ks k) = (x0, x1.extract 0 m, (m : Int)) → mem.Mem w [(w1.heap.size, .cells #[.slice (some ⟨g, 0, none⟩) l.length vc, .int .i64 r] 25), (w.heap.size + 1, .cells #[.slice none 0 0, .int .i64 0] 25), (w.heap.size, .cells #[.slice a l.length c, .int .i64 r] 25)] [(ak, ix ks)] [⟨39, some ⟨g, 0, none⟩, cs (tornL l ks (k + 1))⟩] (((V.setCell ⟨g, k * 3, none⟩ (.string x0)).setCell ⟨g, k * 3 + 1, none⟩ (.string (x1.extract 0 m))).setCell ⟨g, k * 3 + 2, none⟩ (.int .i64 (m : Int)))) := mkHid (fun m V hV he => by
        have h1 := set3 (k := k) (x0 := x0) (x1 := x1.extract 0 m) (x2 := (m : Int)) (Own.below hO hV) (by rw [tornL_len l ks k hkl]; exact hlt)
        rw [← he, HNx.out] at h1
        exact (hS.out.next hV).mark (grew3 _ _ _ _ _ _ _ _) (fun b e => by cases e; exact ⟨fun e2 => by have := rwStored.cs_zero e2; have h3 := tornL_len l ks k hkl; rw [this] at h3; simp at h3; omega, 0, none, rfl⟩) (.inr ⟨g, rfl, h1⟩) (fun _ e2 => by have := rwStored.cs_zero e2; have h3 := tornL_len l ks k hkl; rw [this] at h3; simp at h3; omega))
      by_cases hA : k < ks.length
      · obtain ⟨z, hz⟩ : ∃ y, ks[k]? = some y := ⟨_, List.getElem?_eq_getElem hA⟩
        obtain ⟨gk, ok, rfl, z0⟩ := ix_at hS.out.r0 hz
        have zA := fun o => (ix_at (hS.out.r0.alloc o) hz)
        have zA : ∀ o, (wr.alloc o).cell? ⟨gk, ok + k, none⟩ = some (.int .i64 z) := fun o => by
          obtain ⟨b, off, e, h⟩ := zA o
          cases e
          exact h
        have hkz : kk ks k = z := by unfold kk; rw [hz]; rfl
        have hAi : (k : Int) < (ks.length : Int) := by omega
        rw [hkz] at hb E HF
        clear hz hx hx' e0 e1 e2 hkz HNx hf hO
        by_cases hp : 0 < z
        · have HMin := mkHid (fun wx => min_any z ((x1.size : Int) - (m2 : Int)) wx)
          have hz0 : moreOf z ((x1.size : Int) - (m2 : Int)) = min z ((x1.size : Int) - (m2 : Int)) := by unfold moreOf; rw [if_pos hp]
          rw [hz0] at hb E
          generalize min z ((x1.size : Int) - (m2 : Int)) = q at *
          obtain ⟨m, hm⟩ : ∃ m : Nat, (m2 : Int) + q = (m : Int) := ⟨((m2 : Int) + q).toNat, by omega⟩
          have hml : m ≤ x1.size := by omega
          have F1 := mkHid (fun V hV => HF.out m V hV (E.out m hm hml))
          have hsz : (x1.extract 0 m).size = m := by simp; omega
          clear HF E hS z0 hz0
          go_wp2_with fail
          go_quiet ((go_at_call 91; exact Calls.quiet_of_same (HMin.out _)))
          go_wp2
          exact ⟨⟨k + 1, by omega, by go_num, mkHid (F1.out _ (below_cell (below_cell (below_drewN (below_alloc1 wr _)) (Nat.le_refl _) (by simp) _) (Nat.le_refl _) (by simp) _))⟩, by simp [intOf]; omega⟩
        · have hz0 : moreOf z ((x1.size : Int) - (m2 : Int)) = 0 := by unfold moreOf; rw [if_neg hp]
          have F1 := mkHid (HF.out m2 wr (Below.refl _ _) (E.out m2 (by rw [hz0]; omega) (by omega)))
          have hsz : (x1.extract 0 m2).size = m2 := by simp; omega
          clear HF E hS z0 hz0
          go_wp2
          exact ⟨⟨k + 1, by omega, by go_num, mkHid (F1.out.alloc _)⟩, by simp [intOf]; omega⟩
      · have hkz : kk ks k = 0 := by unfold kk; rw [List.getElem?_eq_none (by omega)]; rfl
        have hAi : ¬ (k : Int) < (ks.length : Int) := by omega
        rw [hkz] at hb E HF
        have F1 := mkHid (HF.out m2 wr (Below.refl _ _) (E.out m2 (by unfold moreOf; simp) (by omega)))
        have hsz : (x1.extract 0 m2).size = m2 := by simp; omega
        clear hx hx' e0 e1 e2 hkz HNx hf hO HF E hS
        go_wp2
        exact ⟨⟨k + 1, by omega, by go_num, mkHid (F1.out.alloc _)⟩, by simp [intOf]; omega⟩
    · obtain rfl : k = l.length := by omega
      rw [tornL_all] at hS
      obtain ⟨e0, e1⟩ := cel2 hS.out.b1
      have ef : ∀ j, wr.frozen? ⟨w.heap.size + 1, j, none⟩ = false := unfrozen hS.out.b1
      have HOw : Hid (OwnV 39 ((wr.setCell ⟨w.heap.size + 1, 0, none⟩ (.slice va l.length vc)).setCell ⟨w.heap.size + 1, 1, none⟩ (.int .i64 r)) va (cs (keepL l ks))) := mkHid (by
        have hn := hS.out.new _ (.head _)
        simp only at hn
        have ho := hS.out.o0
        by_cases h0 : cs (keepL l ks) = []
        · exact .inl h0
        · have hne : ∀ b o s, va = some ⟨b, o, s⟩ → b ≠ w.heap.size + 1 := fun b o s e e2 => ((hn h0 b o s e).2.1 (w.heap.size + 1, _) (.tail _ (.head _))) e2.symm
          exact own_off (p := ⟨w.heap.size + 1, 1, none⟩) (own_off (p := ⟨w.heap.size + 1, 0, none⟩) ho hne) hne)
      have HP : Hid (DPost w (keepL l ks) r (.returned (.agg #[.slice va l.length vc, .int .i64 r])) ((wr.setCell ⟨w.heap.size + 1, 0, none⟩ (.slice va l.length vc)).setCell ⟨w.heap.size + 1, 1, none⟩ (.int .i64 r))) := mkHid ⟨va, vc, by rw [keepL_len], HOw.out, hvf, below_two hS.out.below (by omega) hS.out.below.size _ _, by rw [keepL_len]; exact hcap⟩
      cases va with
      | none =>
        go_wp2
        refine bodyPost_ret (v := .agg #[.slice none l.length vc, .int .i64 r]) ?_ rfl ?_
        rotate_left
        · exact HP.out
        · simp [results, Try.results70, go_sem, e0, e1]
      | some ad =>
        go_wp2
        refine bodyPost_ret (v := .agg #[.slice (some ad) l.length vc, .int .i64 r]) ?_ rfl ?_
        rotate_left
        · exact HP.out
        · simp [results, Try.results70, go_sem, e0, e1]
end Go.Proofs.Ythjiilbfmhnlbaa.drv
