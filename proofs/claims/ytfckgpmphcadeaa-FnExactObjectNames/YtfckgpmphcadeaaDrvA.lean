/-
  Rows of files put together: append of a row that can be read to a row of our own; what spec.l08Copy answers and leaves. Conditions: at most 1,048,576 files, which lie in memory.
-/
import Derived.Test.YtfckgpmphcadeaaDrvIC
import Derived.Test.YtfckgpmphcadeaaDrvF
import Derived.Test.YtfckgpmphcadeaaMem
import Derived.Deep.AppendSrc
namespace Go.Proofs.Ytfckgpmphcadeaa.drv
open Go.RowKit Go.Joins Go.Sort
open Go.Proofs.Ytfckgpmphcadeaa.base Go.Proofs.Ytfckgpmphcadeaa.blk Go.Proofs.Ytfckgpmphcadeaa.aid
open Go.Proofs.Ytfckgpmphcadeaa.row (Rd Own OwnV appSem app_fold)
open Go.Proofs.Ytfckgpmphcadeaa.rwStored (cs)
set_option linter.unusedVariables false

theorem below_two {B g : Nat} {w w1 : World} (hb : Below B w w1) (hB : B ≤ g) (hs : B ≤ w1.heap.size) (a b : Value) : Below B w ((w1.setCell ⟨g, 0, none⟩ a).setCell ⟨g, 1, none⟩ b) :=
  below_cell (below_cell hb hB hs a) hB (by simpa using hs) b
theorem cs_one (l : List File) : ∀ u ∈ cs l, u.oneCell' = true := by
  intro u hu
  unfold cs at hu
  obtain ⟨f, _, hf⟩ := List.mem_flatMap.1 hu
  simp at hf
  rcases hf with rfl | rfl | rfl <;> rfl
/-- cells of a row that can be read, from its address on -/
theorem rd_add {w : World} {ad : Addr} {xs : List Value} (h : Rd w (some ad) xs) : ∀ j u, xs[j]? = some u → w.cell? (ad.add j) = some u := by
  intro j u hj
  obtain ⟨b, off, e, hc⟩ := h j u hj
  cases e
  rw [Addr.add_lit]
  exact hc
theorem appR (W : World) (base g n cap : Nat) (acc : List File) (hn : acc.length = n) (hown : W.ownsRow base 39 3 (.slice (some ⟨g, 0, none⟩) n cap) n (cs acc)) (hb : base ≤ W.heap.size)
    (a : Option Addr) (c : Nat) (l : List File) (hr : Rd W a (cs l)) (hl : n + l.length ≤ 2097152) :
    ∃ g' cap' w2, (appSem #[23, 23] 23 #[.slice (some ⟨g, 0, none⟩) n cap, .slice a l.length c]).run Try.prog W = .ok (.slice (some ⟨g', 0, none⟩) (n + l.length) cap') w2 ∧
      w2.ownsRow base 39 3 (.slice (some ⟨g', 0, none⟩) (n + l.length) cap') (n + l.length) (cs (acc ++ l)) ∧ W.grownBy w2 (some g) := by
  obtain ⟨i0, hi, hz0, hz1, hz2⟩ := info_parts rwStored.info
  cases a with
  | none =>
    have h0 : l = [] := by
      cases l with
      | nil => rfl
      | cons f r =>
        obtain ⟨b, off, e, _⟩ := hr 0 _ rfl
        cases e
    subst h0
    have hcap : n ≤ cap := by
      obtain ⟨_, h2⟩ := hown
      rcases h2 with ⟨e, _⟩ | ⟨g', cap', cur, e, _, _, h3, _⟩
      · cases e
      · simp at e
        obtain ⟨_, rfl⟩ := e
        exact h3
    have h := run_append_room_src (P := Try.prog) W 23 23 23 39 i0 Try.underlying23 hi g 0 n cap (.slice none 0 c) 0 [] (Src.ofNil W Try.underlying23 c) (by omega) (by simp) (by simp)
    exact ⟨g, cap, W, h, by simpa using hown, grew_refl _ _⟩
  | some ad =>
    obtain ⟨v', w2, happ, hown2, hgr, hnil⟩ := run_append_own (P := Try.prog) W base 23 23 39 i0 (.agg #[.string ⟨#[]⟩, .string ⟨#[]⟩, .int .i64 0]) 3 40 Try.underlying23 hi hz0 hz1 hz2 rfl (by decide) (.slice (some ⟨g, 0, none⟩) n cap) n (cs acc) hown ad l.length c (cs l) (by rw [rwStored.cs_len]; omega) (rd_add hr) (cs_one l) (by unfold maxLen; omega) (by omega) hb
    rcases ownsRow_forms hown2 with ⟨rfl, h0⟩ | ⟨g', cap', rfl⟩
    · have := hnil.1 rfl
      simp at this
    · exact ⟨g', cap', w2, happ, by rw [rwStored.cs_app]; exact hown2, hgr⟩

attribute [local go_sem ↓] app_fold
set_option maxRecDepth 100000 in
set_option maxHeartbeats 1000000 in
theorem copyS_any (a : Option Addr) (c : Nat) (l : List File) (r : Int) (w : World) (hl : l.length ≤ 1048576) (hr : Rd w a (cs l)) :
    Calls Try.prog 106 #[.agg #[.slice a l.length c, .int .i64 r]] w (CPost w l r) := by
  have S0 := mkHid (((mem.startR hr).var (.cells #[.slice a l.length c, .int .i64 r] 25)).var (.cells #[.slice none 0 0, .int .i64 0] 25))
  have hz : (w.alloc (.cells #[.slice a l.length c, .int .i64 r] 25)).heap.size = w.heap.size + 1 := by simp
  have hz2 : ((w.alloc (.cells #[.slice a l.length c, .int .i64 r] 25)).alloc (.cells #[.slice none 0 0, .int .i64 0] 25)).heap.size = w.heap.size + 2 := by simp
  rw [hz] at S0
  have S1 := mkHid (S0.out.alloc (.cells #[] 39))
  have O1 : ((((w.alloc (.cells #[.slice a l.length c, .int .i64 r] 25)).alloc (.cells #[.slice none 0 0, .int .i64 0] 25)).alloc (.cells #[] 39))).ownsRow (w.heap.size + 2) 39 3 (.slice (some ⟨w.heap.size + 2, 0, none⟩) 0 0) 0 (cs []) := by
    have h := World.ownsRow_made (base := w.heap.size + 2) (e := 39) (size := 3) ((w.alloc (.cells #[.slice a l.length c, .int .i64 r] 25)).alloc (.cells #[.slice none 0 0, .int .i64 0] 25)) #[] 0 (by simp) (by decide) rfl
    rw [hz2] at h
    exact h
  obtain ⟨g, cap, w2, happ, hown, hgr⟩ := appR _ (w.heap.size + 2) (w.heap.size + 2) 0 0 [] rfl O1 (by simp) a c l S1.out.r0 (by omega)
  rw [Nat.zero_add] at happ hown
  have hown' : w2.ownsRow (w.heap.size + 2) 39 3 (.slice (some ⟨g, 0, none⟩) l.length cap) l.length (cs l) := hown
  have b0 := (hgr.block w.heap.size (Array.getElem?_eq_some_iff.1 S1.out.b1).1 (by simp)).trans S1.out.b1
  have b1 := (hgr.block (w.heap.size + 1) (Array.getElem?_eq_some_iff.1 S1.out.b0).1 (by simp)).trans S1.out.b0
  have hB := S1.out.below.grown hgr S1.out.below.size (fun k hk => by simp at hk; omega)
  obtain ⟨c0, c1⟩ := cel2 b0
  obtain ⟨d0, d1⟩ := cel2 b1
  have cf : ∀ j, w2.frozen? ⟨w.heap.size, j, none⟩ = false := unfrozen b0
  have df : ∀ j, w2.frozen? ⟨w.heap.size + 1, j, none⟩ = false := unfrozen b1
  have HB := mkHid (below_two (g := w.heap.size + 1) (below_cell (i := 0) hB (g := w.heap.size) (by omega) hB.size (.slice (some ⟨g, 0, none⟩) l.length cap)) (by omega) (by simpa using hB.size) (.slice (some ⟨g, 0, none⟩) l.length cap) (.int .i64 r))
  have HO := mkHid (ownsRow_le (ownsRow_setCell_below (ownsRow_setCell_below (ownsRow_setCell_below hown' (a := ⟨w.heap.size, 0, none⟩) (by show w.heap.size < _; omega) (.slice (some ⟨g, 0, none⟩) l.length cap)) (a := ⟨w.heap.size + 1, 0, none⟩) (by show w.heap.size + 1 < _; omega) (.slice (some ⟨g, 0, none⟩) l.length cap)) (a := ⟨w.heap.size + 1, 1, none⟩) (by show w.heap.size + 1 < _; omega) (.int .i64 r)) (show w.heap.size ≤ w.heap.size + 2 by omega))
  clear hr hgr hown hown' b0 b1 hB S0 S1 O1 hz hz2
  go_enter Try.func106, Try.ntmps106
  go_wp2
  refine bodyPost_ret (v := .agg #[.slice (some ⟨g, 0, none⟩) l.length cap, .int .i64 r]) ?_ rfl ?_
  rotate_left
  · exact ⟨_, rfl, HO.out, HB.out⟩
  · simp [results, Try.results106, go_sem, d0, d1]
end Go.Proofs.Ytfckgpmphcadeaa.drv
