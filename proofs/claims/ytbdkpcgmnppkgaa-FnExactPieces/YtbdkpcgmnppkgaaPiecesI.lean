/-
  What impl.Pieces answers and leaves: a row of its own of the text's pieces. Condition: at most 1,048,576 bytes.
-/
import Derived.Test.YtbdkpcgmnppkgaaCutAtI
import Derived.Test.YtbdkpcgmnppkgaaClone
import Derived.Test.YtbdkpcgmnppkgaaPiecesLaw
import Derived.Maps.AppendAt
namespace Go.Proofs.Ytbdkpcgmnppkgaa.fingI
open Go.RowKit Go.Joins Go.Shelf
open Go.Proofs.Ytbdkpcgmnppkgaa.base Go.Proofs.Ytbdkpcgmnppkgaa.fing Go.Proofs.Ytbdkpcgmnppkgaa.blk
open Go.Proofs.Ytbdkpcgmnppkgaa.strs (strV RdT OwnT OwnVT appSem app_fold appT)
set_option linter.unusedVariables false
attribute [local go_sem] Oper.semAt_some
attribute [local go_sem ↓] app_fold

theorem not_own {W : World} {B : Nat} {xs : Array Value} {t e : TypeId} {f : Nat × Nat} (h : W.heap[B]? = some (.cells xs t f)) (hte : t ≠ e) {base size k : Nat} {v : Value} {ys : List Value} (hr : W.ownsRow base e size v k ys) : some B ≠ v.ownBlock := by
  rcases hr.2 with ⟨rfl, _⟩ | ⟨g, cap, cur, rfl, _, hgb, _⟩
  · simp [Value.ownBlock]
  · intro e'
    obtain rfl : B = g := by simpa [Value.ownBlock] using e'
    have := h.symm.trans hgb
    simp at this
    exact hte this.2.1
theorem ownFrom_blk {β : Type} (B k : Nat) (o : Obj) (ho : o.isCells = true) : OwnFrom B (fun (_ : β) (W : World) => W.heap[k]? = some o) := fun s X Y row hs hg hrow =>
  (hg.block k (Array.getElem?_eq_some_iff.1 hs).1 (fun e' => by obtain ⟨_, o', ho', hc⟩ := hrow k e'.symm; rw [hs] at ho'; cases ho'; rw [ho] at hc; cases hc)).trans hs
theorem keeps_below {W W' : World} (h : Below W.heap.size W W') : KeepsOthers W W' := ⟨h.size, fun k o hk _ => (h.block k (Array.getElem?_eq_some_iff.1 hk).1).trans hk⟩

/-- between two rounds -/
def Ip (w : World) (Z mn B mx : Nat) (pre : List Pc) (W : World) : Prop :=
  (∃ v, Boxed W Z 32 v ∧ W.ownsRow w.heap.size 9 1 v pre.length ((vals pre).map strV) ∧ ∃ va vc, v = .slice va pre.length vc) ∧ W.heap[Z + 1]? = some (cutO mn B mx) ∧ Below w.heap.size w W
theorem Ip.own (w : World) (Z mn B mx N : Nat) (hN : w.heap.size ≤ N) : OwnFrom N (Ip w Z mn B mx) :=
  OwnFrom.and (Own.from (holdsRow_own w.heap.size Z 32 9 1 (fun pre : List Pc => pre.length) (fun pre => (vals pre).map strV) (fun pre v => ∃ va vc, v = .slice va pre.length vc)) _) (OwnFrom.and (ownFrom_blk N (Z + 1) (cutO mn B mx) rfl) (ownFrom_below (Nat.le_refl _) hN))

theorem body_facts {w W w1 : World} {Z mn B mx N : Nat} {pre : List Pc} {x : Pc} {va : Option Addr} {vc : Nat}
    (h : Boxed W Z 32 (.slice va pre.length vc) ∧ W.ownsRow w.heap.size 9 1 (.slice va pre.length vc) pre.length ((vals pre).map strV) ∧ W.heap[Z + 1]? = some (cutO mn B mx) ∧ Below w.heap.size w W)
    (hl : pre.length ≤ 20000) (hZ : w.heap.size ≤ Z) (hb : Below W.drew.heap.size W.drew w1) :
    ∃ g c w2, (appSem #[32, 32] 32 #[.slice va pre.length vc, .slice (some ⟨w1.heap.size, 0, none⟩) 1 1]).run Try.prog (w1.alloc (.cells #[.string x.1] 9)) = .ok (.slice (some ⟨g, 0, none⟩) (pre.length + 1) c) w2 ∧
      w1.cell? ⟨Z, 0, none⟩ = some (.slice va pre.length vc) ∧ (∀ o, (w1.alloc o).cell? ⟨Z, 0, none⟩ = some (.slice va pre.length vc)) ∧ w2.cell? ⟨Z, 0, none⟩ = some (.slice va pre.length vc) ∧ w2.frozen? ⟨Z, 0, none⟩ = false ∧
      Hid (KeepsFrom N W (w2.setCell ⟨Z, 0, none⟩ (.slice (some ⟨g, 0, none⟩) (pre.length + 1) c)) ∧ KpB (Z + 1) W (w2.setCell ⟨Z, 0, none⟩ (.slice (some ⟨g, 0, none⟩) (pre.length + 1) c)) ∧ Ip w Z mn B mx (pre ++ [x]) (w2.setCell ⟨Z, 0, none⟩ (.slice (some ⟨g, 0, none⟩) (pre.length + 1) c))) := by
  obtain ⟨hv, hrow, hC, hB⟩ := h
  have hb1 : Below W.heap.size W w1 := re hb rfl rfl rfl rfl
  have hv1 : Boxed w1 Z 32 (.slice va pre.length vc) := blk_below hv hb1
  have hrow1 : w1.ownsRow w.heap.size 9 1 (.slice va pre.length vc) pre.length ((vals pre).map strV) := hrow.kept (row := none) (below_grown hb1) (by
    by_cases hne : (Value.slice va pre.length vc).ownBlock = none
    · exact .inl hne
    · exact .inr hne)
  have hC1 := blk_below hC hb1
  have hB1 := hB.trans (hb1.mono hB.size)
  obtain ⟨g, c, w2, hrun, hown2, hgr⟩ := appT w1 w.heap.size (.slice va pre.length vc) pre.length (vals pre) x.1 (by simp [vals]) hrow1 hB1.size (by omega)
  obtain ⟨hv2, hv3, hr3, hk3, hb3⟩ := hv1.appended (by decide) hrow1 hB1.size hZ hown2 hgr
  have hC2 : w2.heap[Z + 1]? = some (cutO mn B mx) := (hgr.block (Z + 1) (by have := (Array.getElem?_eq_some_iff.1 hC1).1; simp; omega) (not_own hC1 (by decide) hrow1)).trans (blk_old hC1 _)
  have hC3 : (w2.setCell ⟨Z, 0, none⟩ (.slice (some ⟨g, 0, none⟩) (pre.length + 1) c)).heap[Z + 1]? = some (cutO mn B mx) := (Below.heap_setCell _ _ _ (Z + 1) (by simp)).trans hC2
  exact ⟨g, c, w2, hrun, hv1.cell, fun o => (hv1.alloc o).cell, hv2.cell, hv2.frozen, mkHid ⟨((keeps_below hb1).trans hk3).from _, Eq.trans hC3 hC.symm, ⟨_, hv3, by simpa [vals] using hr3, some ⟨g, 0, none⟩, c, by simp⟩, hC3, hB1.trans hb3⟩⟩

set_option maxRecDepth 100000 in
set_option maxHeartbeats 2000000 in
theorem piecesLoop (mn B mx : Nat) (s : ByteArray) (w : World) (h1 : 16 ≤ mn) (h2 : mn ≤ 1000) (h3 : B ≤ 12) (h4 : mn ≤ mx) (h5 : mx ≤ 2000) (hs : s.size ≤ 20000) (hN : (pieces mn B mx s).length ≤ 20000) :
    Calls Try.prog 17 #[cutV mn B mx, .string s] w fun e w' => TPost w (pieces mn B mx s) e w' := by
  have hsi : (s.size : Int) ≤ 20000 := by omega
  have HR : Hid (∀ wx, Calls Try.prog 23 #[cutV mn B mx] wx fun e w' => e = .returned (.bool true) ∧ Below wx.heap.size wx w') := mkHid (fun wx => by
    have h := right_any (mn : Int) (B : Int) (mx : Int) wx
    rw [show cutB mn B mx = true by simp [cutB]; omega] at h
    exact h)
  have HP := mkHid (fun wx => piecesOf_any mn B mx s wx)
  have hd : decide (20000 < (s.size : Int)) = false := decide_eq_false (by omega)
  unfold cutV at HR HP ⊢
  refine (callsIn_wide (n := 3)).1 ?_
  refine callsIn_of_wp_marks Try.func17 rfl trivial ?_ rfl
  simp only [Try.ntmps17, List.size_toArray, List.length_cons, List.length_nil, Nat.reduceAdd, Nat.reduceSub, Array.replicate_succ, Array.replicate_zero, List.push_toArray, List.append_toArray, List.nil_append, List.cons_append]
  gi_wp2_with (fail)
  refine ⟨trivial, ?_⟩
  refine (callsIn_wide.2 (HR.out _)).mono ?_
  rintro e w1 ⟨rfl, hb1⟩
  have k1 := blk_below (blk_new w (.cells #[.int .i64 (mn : Int), .int .i64 (B : Int), .int .i64 (mx : Int)] 29) w.heap.size rfl) hb1
  have B1 := mkHid (below_allocs (os := [_]) hb1)
  have d0 : ∀ o, (w1.alloc o).cell? ⟨w.heap.size, 0, none⟩ = some (.int .i64 (mn : Int)) := fun o => (cells3 (blk_old k1 o)).1
  have d1 : ∀ o, (w1.alloc o).cell? ⟨w.heap.size, 1, none⟩ = some (.int .i64 (B : Int)) := fun o => (cells3 (blk_old k1 o)).2.1
  have d2 : ∀ o, (w1.alloc o).cell? ⟨w.heap.size, 2, none⟩ = some (.int .i64 (mx : Int)) := fun o => (cells3 (blk_old k1 o)).2.2
  clear hb1 k1 HR
  gi_wp2_with (fail)
  refine ⟨trivial, ?_⟩
  refine (callsIn_wide.2 (HP.out _)).mono ?_
  rintro e w2 ⟨rfl, rfl⟩
  clear HP
  gi_wp2
  have bZ := Boxed.new w1 32 (.slice none 0 0)
  have bC := blk_old (blk_new (w1.alloc (.cells #[.slice none 0 0] 32)) (cutO mn B mx) (w1.heap.size + 1) (by simp)) (.cells #[.string s] 9)
  have bT := blk_new ((w1.alloc (.cells #[.slice none 0 0] 32)).alloc (cutO mn B mx)) (.cells #[.string s] 9) (w1.heap.size + 1 + 1) (by simp)
  have hB0 : Below w.heap.size w (((w1.alloc (.cells #[.slice none 0 0] 32)).alloc (cutO mn B mx)).alloc (.cells #[.string s] 9)) := ((B1.out.alloc B1.out.size _).alloc (by have := B1.out.size; simp; omega) _).alloc (by have := B1.out.size; simp; omega) _
  have bZ0 : Boxed (((w1.alloc (.cells #[.slice none 0 0] 32)).alloc (cutO mn B mx)).alloc (.cells #[.string s] 9)) w1.heap.size 32 (.slice none 0 0) := (bZ.alloc _).alloc _
  have hW : (((w1.alloc (.cells #[.slice none 0 0] 32)).alloc (cutO mn B mx)).alloc (.cells #[.string s] 9)).heap.size = w1.heap.size + 1 + 1 + 1 := by simp
  have hZ : w.heap.size ≤ w1.heap.size := B1.out.size
  generalize ((w1.alloc (.cells #[.slice none 0 0] 32)).alloc (cutO mn B mx)).alloc (.cells #[.string s] 9) = W0 at *
  generalize w1.heap.size = Z at *
  clear bZ d0 d1 d2 B1
  refine wpIn_rangeFunc_ownG rfl (by omega) (gf := 50) (lb := #[.pointer (some ⟨Z + 1 + 1, 0, none⟩), .pointer (some ⟨Z + 1, 0, none⟩)]) rfl trivial (enters_of Try.func50 (by kernel_rfl) rfl)
    (seq_stops 2 (by omega) (Z + 1 + 1) (Z + 1) mn B mx s W0 h1 h2 h3 h4 h5 hs bT bC) kp_t (kp_b (by omega)) (Below.refl _ _) (fun _ => rfl)
    (Ip w Z mn B mx)
    (fun _ _ _ => False)
    (Ip.own w Z mn B mx _ (by omega))
    (fun _ _ _ _ _ hs _ _ => hs)
    ⟨⟨_, bZ0, World.ownsRow_nil _ _ _ _, none, 0, rfl⟩, bC, hB0⟩
    (fun x => { tmps := #[.agg #[.int .i64 mn, .int .i64 B, .int .i64 mx], .string s, .pointer (some ⟨w.heap.size, 0, none⟩), undef, .slice none 0 0, .pointer (some ⟨Z, 0, none⟩), .string x.1, .string s, .int .i64 (s.size : Nat), .bool false, .bool false, .agg #[.int .i64 mn, .int .i64 B, .int .i64 mx], .bool true, .bool false, .bool false, .agg #[.int .i64 mn, .int .i64 B, .int .i64 mx], .string s, .func (.func 50) #[] #[.pointer (some ⟨Z + 1 + 1, 0, none⟩), .pointer (some ⟨Z + 1, 0, none⟩)], .string x.1, undef, undef, undef, undef, undef, undef], defers := [] }) ?assign ?body ?done ?stop
  case assign =>
    intro l x W K hK
    gi_wp2
    exact hK
  case body =>
    rintro l pre x W ⟨⟨v, hv, hrow, va, vc, rfl⟩, hC, hB⟩ hlt
    have hc := hv.cell
    have hmx : Try.prog.follows .mixedOrders = true := by kernel_rfl
    have HX := mkHid x.2
    have HI := mkHid (And.intro hv (And.intro hrow (And.intro hC hB)))
    have hlt' : pre.length ≤ 20000 := by omega
    clear hv hrow hC hB hlt
    gi_wp2
    gi_region_with_o ((refine ⟨trivial, ?_⟩; gi_at_call 39; refine (CallsIn.inRound l (callsIn_wide.2 (clone.clone_any x.1 _ (by have := HX.out; omega)))).mono ?_; rintro e w1 ⟨rfl, hb1⟩; obtain ⟨g, c, w2, hrun, hd0, hd1, hc1, hf1, hI1⟩ := body_facts (N := W0.heap.size) (x := x) HI.out hlt' hZ hb1))
    all_goals gi_wp2
    all_goals exact hI1.out
  case done =>
    rintro D ys W hD hy ⟨⟨v, hv, hrow, va, vc, rfl⟩, hC, hB⟩ hK
    have hc := hv.cell
    have hlen : ys.length = (pieces mn B mx s).length := by rw [← hy]; simp [vals]
    have ho := own_vt (show (vals ys).length = ys.length by simp [vals]) (ownsRow_putObj hrow (.deferred none) hK rfl)
    have P : Hid (TPost w (pieces mn B mx s) (.returned (.slice va ys.length vc)) (W.putObj D (.deferred none))) := mkHid (by
      rw [← hy] at hlen ⊢
      rw [hlen]
      exact ⟨va, vc, rfl, ho.1, ho.2, hB.trans (belowK_b (w := w) (Nat.le_refl _) W D _ _ (by omega) hK rfl rfl)⟩)
    clear ho hlen hy hrow
    gi_wp2
    refine ⟨by simp, .inl ⟨_, _, rfl, run_takeDeferred hK, ?_⟩⟩
    exact ⟨_, results_tmp rfl _ _ _, by exact P.out⟩
  case stop =>
    rintro D c pre W _ _ h _
    exact h.elim

set_option maxRecDepth 100000 in
theorem pieces_any : IPieces := by
  intro mn bs mx s w hs
  by_cases h1 : 20000 < (s.size : Int)
  · have E := mkHid (show piecesT mn bs mx s = [] by unfold piecesT; rw [if_pos (.inl (by omega))])
    unfold cutV
    go_enter Try.func17, Try.ntmps17
    go_wp2
    go_ret
    rw [E.out]
    exact ⟨none, 0, rfl, .inl rfl, fun b o s e => by simp at e, below_alloc1 w _⟩
  · cases hR : cutB mn bs mx
    · have E := mkHid (show piecesT mn bs mx s = [] by unfold piecesT; rw [if_pos (.inr hR)])
      have HR := mkHid (fun wx => right_any mn bs mx wx)
      rw [hR] at HR
      have h1' : (s.size : Int) ≤ 20000 := by omega
      unfold cutV at HR ⊢
      go_enter Try.func17, Try.ntmps17
      go_wp2_with fail
      refine (HR.out _).mono ?_
      rintro e w1 ⟨rfl, hb1⟩
      have B1 := mkHid (below_allocs (os := [_]) hb1)
      clear hb1 HR
      go_wp2
      go_ret
      rw [E.out]
      exact ⟨none, 0, rfl, .inl rfl, fun b o s e => by simp at e, B1.out⟩
    · obtain ⟨A, B, C, rfl, rfl, rfl, g1, g2, g3, g4, g5⟩ := cut_nat hR
      have E : piecesT A B C s = pieces A B C s := by unfold piecesT; rw [if_neg (by rw [hR]; simp; omega)]; simp
      have hN := piecesT_len A B C s
      rw [E] at hN ⊢
      exact piecesLoop A B C s w g1 g2 g3 g4 g5 (by omega) hN
end Go.Proofs.Ytbdkpcgmnppkgaa.fingI
