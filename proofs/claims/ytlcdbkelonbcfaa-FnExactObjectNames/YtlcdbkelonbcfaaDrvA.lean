/-
  Rows of files put together: append of a row that can be read to a row of our own; what spec.l08Copy answers and leaves. Conditions: at most 1,048,576 files, which lie in memory.
-/
import Derived.Test.YtlcdbkelonbcfaaDrvIC
import Derived.Test.YtlcdbkelonbcfaaDrvF
import Derived.Test.YtlcdbkelonbcfaaMem
import Derived.Deep.AppendSrc
namespace Go.Proofs.Ytlcdbkelonbcfaa.drv
open Go.RowKit Go.Joins Go.Sort
open Go.Proofs.Ytlcdbkelonbcfaa.base Go.Proofs.Ytlcdbkelonbcfaa.blk Go.Proofs.Ytlcdbkelonbcfaa.aid
open Go.Proofs.Ytlcdbkelonbcfaa.row (Rd Own OwnV appSem app_fold)
open Go.Proofs.Ytlcdbkelonbcfaa.rwStored (cs)
set_option linter.unusedVariables false

theorem below_two {B g : Nat} {w w1 : World} (hb : Below B w w1) (hB : B ≤ g) (hs : B ≤ w1.heap.size) (a b : Value) : Below B w ((w1.setCell ⟨g, 0, none⟩ a).setCell ⟨g, 1, none⟩ b) :=
  below_cell (below_cell hb hB hs a) hB (by simpa using hs) b
theorem cs_one (l : List File) : ∀ u ∈ cs l, u.oneCell' = true := by
  intro u hu
  unfold cs at hu
  obtain ⟨f, _, hf⟩ := List.mem_flatMap.1 hu
  simp at hf
  rcases hf with rfl | rfl | rfl <;> rfl
/-- cells of a row that can be read, from its address on -/
theorem rd_add {w : World} {ad : Addr} {xs : List Value} (h : Rd w (some ad) xs) : ∀ j u, xs[j]? = some u → w.cell? (ad.add j) = some u := by
  intro j u hj
  obtain ⟨b, off, e, hc⟩ := h j u hj
  cases e
  rw [Addr.add_lit]
  exact hc
theorem appR (W : World) (base g n cap : Nat) (acc : List File) (hn : acc.length = n) (hown : W.ownsRow base 94 3 (.slice (some ⟨g, 0, none⟩) n cap) n (cs acc)) (hb : base ≤ W.heap.size)
    (a : Option Addr) (c : Nat) (l : List File) (hr : Rd W a (cs l)) (hl : n + l.length ≤ 2097152) :
    ∃ g' cap' w2, (appSem #[90, 90] 90 #[.slice (some ⟨g, 0, none⟩) n cap, .slice a l.length c]).run Try.prog W = .ok (.slice (some ⟨g', 0, none⟩) (n + l.length) cap') w2 ∧
      w2.ownsRow base 94 3 (.slice (some ⟨g', 0, none⟩) (n + l.length) cap') (n + l.length) (cs (acc ++ l)) ∧ W.grownBy w2 (some g) := by
  obtain ⟨i0, hi, hz0, hz1, hz2⟩ := info_parts rwStored.info
  cases a with
  | none =>
    have h0 : l = [] := by
      cases l with
      | nil => rfl
      | cons f r =>
        obtain ⟨b, off, e, _⟩ := hr 0 _ rfl
        cases e
    subst h0
    have hcap : n ≤ cap := by
      obtain ⟨_, h2⟩ := hown
      rcases h2 with ⟨e, _⟩ | ⟨g', cap', cur, e, _, _, h3, _⟩
      · cases e
      · simp at e
        obtain ⟨_, rfl⟩ := e
        exact h3
    have h := run_append_room_src (P := Try.prog) W 90 90 90 94 i0 Try.underlying90 hi g 0 n cap (.slice none 0 c) 0 [] (Src.ofNil W Try.underlying90 c) (by omega) (by simp) (by simp)
    exact ⟨g, cap, W, h, by simpa using hown, grew_refl _ _⟩
  | some ad =>
    obtain ⟨v', w2, happ, hown2, hgr, hnil⟩ := run_append_own (P := Try.prog) W base 90 90 94 i0 (.agg #[.string ⟨#[]⟩, .string ⟨#[]⟩, .int .i64 0]) 3 40 Try.underlying90 hi hz0 hz1 hz2 rfl (by decide) (.slice (some ⟨g, 0, none⟩) n cap) n (cs acc) hown ad l.length c (cs l) (by rw [rwStored.cs_len]; omega) (rd_add hr) (cs_one l) (by unfold maxLen; omega) (by omega) hb
    rcases ownsRow_forms hown2 with ⟨rfl, h0⟩ | ⟨g', cap', rfl⟩
    · have := hnil.1 rfl
      simp at this
    · exact ⟨g', cap', w2, happ, by rw [rwStored.cs_app]; exact hown2, hgr⟩

attribute [local go_sem ↓] app_fold
end Go.Proofs.Ytlcdbkelonbcfaa.drv
