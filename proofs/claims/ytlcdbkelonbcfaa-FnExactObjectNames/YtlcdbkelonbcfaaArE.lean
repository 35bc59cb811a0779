/-
  What laws.eqDriveS and laws.eqArray answer of arrays that are alike, and leave. Conditions: at most 1,048,576 drives of at most 1,048,576 files each, which lie in memory.
-/
import Derived.Test.YtlcdbkelonbcfaaArL
namespace Go.Proofs.Ytlcdbkelonbcfaa.arr
open Go.RowKit Go.Joins
open Go.Proofs.Ytlcdbkelonbcfaa.base Go.Proofs.Ytlcdbkelonbcfaa.blk Go.Proofs.Ytlcdbkelonbcfaa.aid
open Go.Proofs.Ytlcdbkelonbcfaa.row (Rd Own OwnV)
open Go.Proofs.Ytlcdbkelonbcfaa.rwStored (cs)
set_option linter.unusedVariables false
set_option linter.unusedSimpArgs false

theorem val_at {ds es : List Dv} (h : es.map val = ds.map val) {k : Nat} {da : Option Addr} {dc : Nat} {dl : List Fl} {dr : Int} (hx : ds[k]? = some (da, dc, dl, dr)) : ∃ ea ec, es[k]? = some (ea, ec, dl, dr) := by
  have h1 : (es.map val)[k]? = some (dl, dr) := by rw [h, List.getElem?_map, hx]; rfl
  rw [List.getElem?_map] at h1
  obtain ⟨⟨ea, ec, el', er⟩, h2, h3⟩ := Option.map_eq_some_iff.1 h1
  cases h3
  exact ⟨ea, ec, h2⟩
theorem val_len {ds es : List Dv} (h : es.map val = ds.map val) : es.length = ds.length := by
  have := congrArg List.length h
  simpa using this
theorem val_sizes {ds es : List Dv} (h : es.map val = ds.map val) {P : List Fl → Int → Prop} (hp : ∀ d ∈ ds, P d.2.2.1 d.2.2.2) : ∀ d ∈ es, P d.2.2.1 d.2.2.2 := by
  intro d hd
  have h1 : val d ∈ ds.map val := by rw [← h]; exact List.mem_map_of_mem hd
  obtain ⟨e, he, h2⟩ := List.mem_map.1 h1
  obtain ⟨ea, ec, el', er⟩ := e
  obtain ⟨da, dc, dl, dr⟩ := d
  cases h2
  have q := hp _ he
  exact q
set_option maxRecDepth 100000 in
set_option maxHeartbeats 2000000 in
theorem eqS_same (a b : Option Addr) (ca cb : Nat) (ds es : List Dv) (w : World) (n : Nat) (hn : ds.length = n) (hv : es.map val = ds.map val) (hl : n ≤ 1048576) (hs : ∀ d ∈ ds, d.2.2.1.length ≤ 1048576) (ha : RdA w a ds) (hb : RdA w b es) :
    Calls Try.prog 38 #[.slice a n ca, .slice b n cb] w fun e w' => e = .returned (.bool true) ∧ Below w.heap.size w w' := by
  have hli : (n : Int) ≤ 1048576 := by omega
  have HV := mkHid hv
  clear hv
  go_enter Try.func38, Try.ntmps38
  go_wp2
  go_loopw [5] (fun i wr => ∃ k : Nat, k ≤ n ∧ i = .int .i64 k ∧ Hid (Below w.heap.size w wr))
    (fun i _ => n - (intOf i).toNat)
  case atStart => exact ⟨0, Nat.zero_le _, rfl, mkHid (Below.refl _ _)⟩
  case round =>
    obtain ⟨k, hk, rfl, hB⟩ := hrel
    by_cases hlt : k < n
    · have hlti : (k : Int) < (n : Int) := by omega
      obtain ⟨d, hx⟩ : ∃ y, ds[k]? = some y := ⟨_, List.getElem?_eq_getElem (by omega)⟩
      obtain ⟨da, dc, dl, dr⟩ := d
      obtain ⟨ea, ec, hy⟩ := val_at HV.out hx
      obtain ⟨g1, o1, rfl, c0, c1, l1⟩ := el ha.top hx
      obtain ⟨g2, o2, rfl, d0, d1, l2⟩ := el hb.top hy
      simp only at c0 c1 d0 d1
      have e0 := (hB.out.cell (p := ⟨g1, o1 + k * 2, none⟩) l1).trans c0
      have e1 := (hB.out.cell (p := ⟨g1, o1 + k * 2 + 1, none⟩) l1).trans c1
      have e2 := (hB.out.cell (p := ⟨g2, o2 + k * 2, none⟩) l2).trans d0
      have e3 := (hB.out.cell (p := ⟨g2, o2 + k * 2 + 1, none⟩) l2).trans d1
      have HE := mkHid (fun wx (h : Below w.heap.size w wx) => drv.eq_same da ea dc ec dl dr wx (hs _ (List.mem_of_getElem? hx)) ((ha.each _ (List.mem_of_getElem? hx)).below h) ((hb.each _ (List.mem_of_getElem? hy)).below h))
      clear c0 c1 d0 d1 hx hy hs ha hb
      go_wp2_with fail
      go_region_held3 (fun w' => w'.cell? ⟨g1, o1 + k * 2, none⟩ = some (.slice da dl.length dc) ∧ w'.cell? ⟨g1, o1 + k * 2 + 1, none⟩ = some (.int .i64 dr) ∧ w'.cell? ⟨g2, o2 + k * 2, none⟩ = some (.slice ea dl.length ec) ∧ w'.cell? ⟨g2, o2 + k * 2 + 1, none⟩ = some (.int .i64 dr)) (go_keep)
        ((go_at_call 73; refine Calls.mono (HE.out _ (by first | exact hB.out | exact hB.out.drew)) ?_; rintro e w1 ⟨rfl, hb1⟩; have r1 := re (w := wr) hb1 rfl rfl rfl rfl; have B1 := mkHid (hB.out.trans (r1.mono hB.out.size)); have q0 := (r1.cell (p := ⟨g1, o1 + k * 2, none⟩) (World.block_lt_of_cell? wr _ e0)).trans e0; have q1 := (r1.cell (p := ⟨g1, o1 + k * 2 + 1, none⟩) (World.block_lt_of_cell? wr _ e1)).trans e1; have q2 := (r1.cell (p := ⟨g2, o2 + k * 2, none⟩) (World.block_lt_of_cell? wr _ e2)).trans e2; have q3 := (r1.cell (p := ⟨g2, o2 + k * 2 + 1, none⟩) (World.block_lt_of_cell? wr _ e3)).trans e3; clear hb1 r1))
      go_wp2
      exact ⟨⟨k + 1, by omega, by go_num, by first | exact B1 | exact mkHid B1.out.drew⟩, by simp [intOf]; omega⟩
    · obtain rfl : k = n := by omega
      clear hs ha hb
      go_wp2
      go_ret
      exact ⟨rfl, hB.out⟩
set_option maxRecDepth 100000 in
set_option maxHeartbeats 1000000 in
theorem eqA_same (k m : Int) (a b : Option Addr) (ca cb : Nat) (ds es : List Dv) (w : World) (n : Nat) (hn : ds.length = n) (hv : es.map val = ds.map val) (hl : n ≤ 1048576) (hs : ∀ d ∈ ds, d.2.2.1.length ≤ 1048576) (ha : RdA w a ds) (hb : RdA w b es) :
    Calls Try.prog 13 #[.agg #[.int .i64 k, .int .i64 m, .slice a n ca], .agg #[.int .i64 k, .int .i64 m, .slice b n cb]] w fun e w' => e = .returned (.bool true) ∧ Below w.heap.size w w' := by
  have h1 : (k != k) = false := by simp
  have h2 : (m != m) = false := by simp
  have HE := mkHid (eqS_same a b ca cb ds es ((w.alloc (.cells #[.int .i64 k, .int .i64 m, .slice a n ca] 30)).alloc (.cells #[.int .i64 k, .int .i64 m, .slice b n cb] 30)) n hn hv hl hs ((ha.alloc _).alloc _) ((hb.alloc _).alloc _))
  clear ha hb hs hv
  go_enter Try.func13, Try.ntmps13
  go_wp2_with fail
  refine HE.out.mono ?_
  rintro e w1 ⟨rfl, hb1⟩
  have B1 := mkHid (below_allocs (os := [_, _]) hb1)
  clear hb1 HE
  go_wp2
  go_ret
  exact ⟨rfl, B1.out⟩
end Go.Proofs.Ytlcdbkelonbcfaa.arr
