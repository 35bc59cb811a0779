/-
  What impl.CutAt answers and leaves: the length of the first piece. Condition: at most 1,048,576 bytes.
-/
import Derived.Test.YtbdkpcgmnppkgaaSeqI
import Derived.Test.YtbdkpcgmnppkgaaRightI
namespace Go.Proofs.Ytbdkpcgmnppkgaa.fingI
open Go.RowKit Go.Joins Go.Shelf
open Go.Proofs.Ytbdkpcgmnppkgaa.base Go.Proofs.Ytbdkpcgmnppkgaa.fing Go.Proofs.Ytbdkpcgmnppkgaa.blk
set_option linter.unusedVariables false
attribute [local go_sem] Oper.semAt_some

theorem kp_t {Bc : Nat} {A B C : World} (h : KpB Bc A B) (k : KpB Bc B C) : KpB Bc A C := Eq.trans k h
theorem kp_b {Bc : Nat} {w : World} (hB : Bc < w.heap.size) (W : World) (l : Nat) (o o' : Obj) (hl : w.heap.size ≤ l) (_ : W.heap[l]? = some o) (_ : o.isCells = false) (_ : o.isWalk = false) : KpB Bc W (W.putObj l o') := World.putObj_heap_other (by omega)
theorem cutN_zero (mn B mx : Nat) (s : ByteArray) (h1 : 16 ≤ mn) (h : pieces mn B mx s = []) (h4 : mn ≤ mx) : cutN mn B mx s = 0 := by
  by_cases h0 : s.size = 0
  · unfold cutN
    rw [if_pos (by omega)]
    omega
  · rw [pieces_next mn B mx s h1 h4 (by omega)] at h
    simp at h
theorem first_size (mn B mx : Nat) (s x : ByteArray) (h1 : 16 ≤ mn) (h4 : mn ≤ mx) (h : [x] <+: pieces mn B mx s) : cutN mn B mx s = x.size := by
  by_cases h0 : s.size = 0
  · rw [pieces_nil mn B mx s h0] at h
    simp at h
  · have hb := cutN_bd mn B mx s h1 h4 (by omega)
    rw [pieces_next mn B mx s h1 h4 (by omega)] at h
    obtain ⟨t, ht⟩ := h
    simp at ht
    rw [ht.1]
    simp
    omega

set_option maxRecDepth 100000 in
set_option maxHeartbeats 2000000 in
theorem cutLoop (mn B mx : Nat) (s : ByteArray) (w : World) (h1 : 16 ≤ mn) (h2 : mn ≤ 1000) (h3 : B ≤ 12) (h4 : mn ≤ mx) (h5 : mx ≤ 2000) (hs : s.size ≤ 20000) :
    Calls Try.prog 20 #[cutV mn B mx, .string s] w fun e w' => e = .returned (.int .i64 (cutN mn B mx s : Nat)) ∧ Below w.heap.size w w' := by
  have hsi : (s.size : Int) ≤ 20000 := by omega
  have HR : Hid (∀ wx, Calls Try.prog 23 #[cutV mn B mx] wx fun e w' => e = .returned (.bool true) ∧ Below wx.heap.size wx w') := mkHid (fun wx => by
    have h := right_any (mn : Int) (B : Int) (mx : Int) wx
    rw [show cutB mn B mx = true by simp [cutB]; omega] at h
    exact h)
  have HP := mkHid (fun wx => piecesOf_any mn B mx s wx)
  have hd : decide (20000 < (s.size : Int)) = false := decide_eq_false (by omega)
  unfold cutV at HR HP ⊢
  refine (callsIn_wide (n := 3)).1 ?_
  refine callsIn_of_wp_marks Try.func20 rfl trivial ?_ rfl
  simp only [Try.ntmps20, List.size_toArray, List.length_cons, List.length_nil, Nat.reduceAdd, Nat.reduceSub, Array.replicate_succ, Array.replicate_zero, List.push_toArray, List.append_toArray, List.nil_append, List.cons_append]
  gi_wp2_with (fail)
  refine ⟨trivial, ?_⟩
  refine (callsIn_wide.2 (HR.out _)).mono ?_
  rintro e w1 ⟨rfl, hb1⟩
  have k1 := blk_below (blk_new w (.cells #[.int .i64 (mn : Int), .int .i64 (B : Int), .int .i64 (mx : Int)] 29) w.heap.size rfl) hb1
  have B1 := mkHid (below_allocs (os := [_]) hb1)
  have d0 : ∀ o, (w1.alloc o).cell? ⟨w.heap.size, 0, none⟩ = some (.int .i64 (mn : Int)) := fun o => (cells3 (blk_old k1 o)).1
  have d1 : ∀ o, (w1.alloc o).cell? ⟨w.heap.size, 1, none⟩ = some (.int .i64 (B : Int)) := fun o => (cells3 (blk_old k1 o)).2.1
  have d2 : ∀ o, (w1.alloc o).cell? ⟨w.heap.size, 2, none⟩ = some (.int .i64 (mx : Int)) := fun o => (cells3 (blk_old k1 o)).2.2
  clear hb1 k1 HR
  gi_wp2_with (fail)
  refine ⟨trivial, ?_⟩
  refine (callsIn_wide.2 (HP.out _)).mono ?_
  rintro e w2 ⟨rfl, rfl⟩
  clear HP
  gi_wp2
  have bZ := Boxed.new w1 3 (.int .i64 0)
  have bC := blk_old (blk_new (w1.alloc (.cells #[.int .i64 0] 3)) (cutO mn B mx) (w1.heap.size + 1) (by simp)) (.cells #[.string s] 9)
  have bT := blk_new ((w1.alloc (.cells #[.int .i64 0] 3)).alloc (cutO mn B mx)) (.cells #[.string s] 9) (w1.heap.size + 1 + 1) (by simp)
  have hB0 : Below w.heap.size w (((w1.alloc (.cells #[.int .i64 0] 3)).alloc (cutO mn B mx)).alloc (.cells #[.string s] 9)) := ((B1.out.alloc B1.out.size _).alloc (by have := B1.out.size; simp; omega) _).alloc (by have := B1.out.size; simp; omega) _
  have bZ0 : Boxed (((w1.alloc (.cells #[.int .i64 0] 3)).alloc (cutO mn B mx)).alloc (.cells #[.string s] 9)) w1.heap.size 3 (.int .i64 0) := (bZ.alloc _).alloc _
  have hW : (((w1.alloc (.cells #[.int .i64 0] 3)).alloc (cutO mn B mx)).alloc (.cells #[.string s] 9)).heap.size = w1.heap.size + 1 + 1 + 1 := by simp
  have hZ : w.heap.size ≤ w1.heap.size := B1.out.size
  generalize ((w1.alloc (.cells #[.int .i64 0] 3)).alloc (cutO mn B mx)).alloc (.cells #[.string s] 9) = W0 at *
  generalize w1.heap.size = Z at *
  clear bZ d0 d1 d2 B1
  refine wpIn_rangeFunc_ownG rfl (by omega) (gf := 50) (lb := #[.pointer (some ⟨Z + 1 + 1, 0, none⟩), .pointer (some ⟨Z + 1, 0, none⟩)]) rfl trivial (enters_of Try.func50 (by kernel_rfl) rfl)
    (seq_stops 2 (by omega) (Z + 1 + 1) (Z + 1) mn B mx s W0 h1 h2 h3 h4 h5 hs bT bC) kp_t (kp_b (by omega)) (Below.refl _ _) (fun _ => rfl)
    (fun pre W => (pre = [] ∧ Boxed W Z 3 (.int .i64 0)) ∧ Below w.heap.size w W)
    (fun c pre W => (c = .exit 0 ∧ ∃ x : Pc, pre = [x] ∧ Boxed W Z 3 (.int .i64 (x.1.size : Nat))) ∧ Below w.heap.size w W)
    (OwnFrom.and (OwnFrom.and (ownFrom_pure _ (fun pre => pre = [])) (Own.from (boxed_own Z 3 (fun _ => .int .i64 0)) _)) (ownFrom_below (Nat.le_refl _) (by omega)))
    (fun c => OwnFrom.and (fun s A B row hs hg hr => ⟨hs.1, hs.2.elim fun x hx => ⟨x, hx.1, Own.from (boxed_own Z 3 (fun _ => .int .i64 (x.1.size : Nat))) _ s A B row hx.2 hg hr⟩⟩) (ownFrom_below (Nat.le_refl _) (by omega)))
    ⟨⟨rfl, bZ0⟩, hB0⟩
    (fun x => { tmps := #[.agg #[.int .i64 mn, .int .i64 B, .int .i64 mx], .string s, .pointer (some ⟨w.heap.size, 0, none⟩), undef, .int .i64 0, .pointer (some ⟨Z, 0, none⟩), .string x.1, .string s, .int .i64 (s.size : Nat), .bool false, .bool false, .agg #[.int .i64 mn, .int .i64 B, .int .i64 mx], .bool true, .bool false, .bool false, .agg #[.int .i64 mn, .int .i64 B, .int .i64 mx], .string s, .func (.func 50) #[] #[.pointer (some ⟨Z + 1 + 1, 0, none⟩), .pointer (some ⟨Z + 1, 0, none⟩)], .string x.1, undef, undef, undef], defers := [] }) ?assign ?body ?done ?stop
  case assign =>
    intro l x W K hK
    gi_wp2
    exact hK
  case body =>
    rintro l pre x W ⟨⟨rfl, hv⟩, hB⟩ _
    have hc := hv.cell
    have hf := hv.frozen
    gi_wp2
    exact ⟨(KeepsOthers.setCell _ _ _).from _, ⟨rfl, x, rfl, hv.set _⟩, hB.setCell (p := ⟨Z, 0, none⟩) hZ _⟩
  case done =>
    rintro D ys W hD hy ⟨⟨rfl, hv⟩, hB⟩ hK
    have E := mkHid (cutN_zero mn B mx s h1 hy.symm h4)
    have hc := hv.cell
    gi_wp2
    refine ⟨by simp, .inl ⟨_, _, rfl, run_takeDeferred hK, ?_⟩⟩
    exact ⟨_, results_tmp rfl _ _ _, ret_eq (by rw [E.out]; rfl), hB.trans (belowK_b (w := w) (Nat.le_refl _) W D _ _ (by omega) hK rfl rfl)⟩
  case stop =>
    rintro D c pre W hD hpre ⟨⟨rfl, x, rfl, hv⟩, hB⟩ hK
    have E := mkHid (first_size mn B mx s x.1 h1 h4 hpre)
    have hc := hv.cell
    gi_wp2
    refine ⟨by simp, .inl ⟨_, _, rfl, run_takeDeferred hK, ?_⟩⟩
    exact ⟨_, results_tmp rfl _ _ _, ret_eq (by rw [E.out]; rfl), hB.trans (belowK_b (w := w) (Nat.le_refl _) W D _ _ (by omega) hK rfl rfl)⟩

set_option maxRecDepth 100000 in
theorem cut_any : ICutAt := by
  intro mn bs mx s w hs
  by_cases h1 : 20000 < (s.size : Int)
  · have E := mkHid (show cutT mn bs mx s = 0 by unfold cutT; rw [if_pos (.inl (by omega))])
    unfold cutV
    go_enter Try.func20, Try.ntmps20
    go_wp2
    go_ret
    exact ⟨ret_eq (by rw [E.out]; rfl), below_alloc1 w _⟩
  · cases hR : cutB mn bs mx
    · have E := mkHid (show cutT mn bs mx s = 0 by unfold cutT; rw [if_pos (.inr hR)])
      have HR := mkHid (fun wx => right_any mn bs mx wx)
      rw [hR] at HR
      have h1' : (s.size : Int) ≤ 20000 := by omega
      unfold cutV at HR ⊢
      go_enter Try.func20, Try.ntmps20
      go_wp2_with fail
      refine (HR.out _).mono ?_
      rintro e w1 ⟨rfl, hb1⟩
      have B1 := mkHid (below_allocs (os := [_]) hb1)
      clear hb1 HR
      go_wp2
      go_ret
      exact ⟨ret_eq (by rw [E.out]; rfl), B1.out⟩
    · obtain ⟨A, B, C, rfl, rfl, rfl, g1, g2, g3, g4, g5⟩ := cut_nat hR
      have E : cutT A B C s = cutN A B C s := by unfold cutT; rw [if_neg (by rw [hR]; simp; omega)]; simp
      rw [E]
      exact cutLoop A B C s w g1 g2 g3 g4 g5 (by omega)
end Go.Proofs.Ytbdkpcgmnppkgaa.fingI
