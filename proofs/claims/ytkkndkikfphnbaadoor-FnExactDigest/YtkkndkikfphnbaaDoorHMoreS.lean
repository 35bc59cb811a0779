/-
  What spec.HashBegin, HashMore, HashEnd and Digest answer and leave. Conditions: at most 1,048,576 numbers, which lie in memory; at most 1,048,576 bytes.
-/
import Derived.Test.YtkkndkikfphnbaaDoorHRightS
import Derived.Test.YtkkndkikfphnbaaDoorHBeginS
import Derived.Test.YtkkndkikfphnbaaDoorEndS
namespace Go.Proofs.YtkkndkikfphnbaaDoor.sha
open Go.RowKit Go.Joins
open Go.Proofs.YtkkndkikfphnbaaDoor.base Go.Proofs.YtkkndkikfphnbaaDoor.word Go.Proofs.YtkkndkikfphnbaaDoor.ints Go.Proofs.YtkkndkikfphnbaaDoor.blk
set_option linter.unusedVariables false
attribute [local go_sem ↓] app_fold

/-- what HashMore tells: State, Rest, Size -/
def moreH (zs : List Int) (r : ByteArray) (size : Int) (t : ByteArray) : List Int × ByteArray × Int :=
  if 20000 < t.size then ([], ⟨#[]⟩, 0)
  else if hRight zs r size = false ∨ 1099511627776 < size + t.size then (zs, r, size)
  else (list8 (after (fn zs) (r ++ t) ((r ++ t).size / 64)), rest (r ++ t), size + t.size)
def endH (zs : List Int) (r : ByteArray) (size : Int) : ByteArray := if hRight zs r size = true then dig (fn zs) r size else ⟨#[]⟩
def digest (t : ByteArray) : ByteArray := if 20000 < t.size then ⟨#[]⟩ else dig (after start t (t.size / 64)) (rest t) t.size

def RPost (w : World) (o : List Int × ByteArray × Int) (e : Ending) (w' : World) : Prop :=
  ∃ a c, e = .returned (hash a o.1.length c o.2.1 o.2.2) ∧ Rd w' a o.1 ∧ Below w.heap.size w w'

theorem hRight_parts {zs : List Int} {r : ByteArray} {size : Int} (h : hRight zs r size = true) : zs.length = 8 ∧ 0 ≤ size ∧ size ≤ 1099511627776 ∧ (r.size : Int) = size % 64 ∧ r.size < 64 := by
  unfold hRight at h
  simp at h
  omega

/-- append of numbers to an empty row of our own -/
theorem appZ (b0 off cap : Nat) (zs : List Int) (W W' : World) (hW : W' = W ∨ W' = W.drew) (base : Nat) (q : Nat) (hown : W.ownsRow base 2 1 (.slice (some ⟨q, 0, none⟩) 0 0) 0 []) (hb : base ≤ W.heap.size) (hr : Rd W (some ⟨b0, off, none⟩) zs) (hl : zs.length ≤ 1048576) :
    ∃ g c w2, (appSem #[25, 25] 25 #[.slice (some ⟨q, 0, none⟩) 0 0, .slice (some ⟨b0, off, none⟩) zs.length cap]).run Tryd.prog W' = .ok (.slice (some ⟨g, 0, none⟩) zs.length c) w2 ∧ base ≤ g ∧ Rd w2 (some ⟨g, 0, none⟩) zs ∧ W.grownBy w2 (some q) := by
  obtain ⟨i0, hi, hz0, hz1, hz2⟩ := info_parts info2
  have hown' : W'.ownsRow base 2 1 (.slice (some ⟨q, 0, none⟩) 0 0) 0 [] := by rcases hW with rfl | rfl <;> exact hown
  have hc : ∀ j u, (zs.map intV)[j]? = some u → W'.cell? ((⟨b0, off, none⟩ : Addr).add j) = some u := by
    intro j u hj
    rw [List.getElem?_map] at hj
    cases hz : zs[j]? with
    | none => rw [hz] at hj; simp at hj
    | some z =>
      rw [hz] at hj
      simp at hj
      subst hj
      obtain ⟨b', o', e, hc⟩ := hr j z hz
      simp at e
      obtain ⟨rfl, rfl⟩ := e
      rw [Addr.add_lit]
      rcases hW with rfl | rfl <;> exact hc
  obtain ⟨v', w2, happ0, hown2, hgrow, hn⟩ := run_append_own (P := Tryd.prog) W' base 25 25 2 i0 (.int .i64 0) 1 8 Tryd.underlying25 hi hz0 hz1 hz2 rfl (by decide) (.slice (some ⟨q, 0, none⟩) 0 0) 0 [] hown' ⟨b0, off, none⟩ zs.length cap (zs.map intV) (by simp) hc (by intro u hu; rw [List.mem_map] at hu; obtain ⟨j, _, rfl⟩ := hu; rfl) (by unfold maxLen; omega) (by omega) (by rcases hW with rfl | rfl <;> exact hb)
  have h2 := hown2
  obtain ⟨_, h2⟩ := h2
  rcases h2 with ⟨rfl, h0⟩ | ⟨g, c, cur, rfl, hbg, hg, _, _, _, ht⟩
  · simp at hn
  · refine ⟨g, c, w2, by rw [Nat.zero_add] at happ0; exact happ0, hbg, ?_, ?_⟩
    · intro i z hz
      refine ⟨g, 0, rfl, ?_⟩
      have := hown2.cells rfl i (.int .i64 z) (by simp [hz, intV])
      rw [Addr.add_lit, Nat.zero_add] at this
      simpa using this
    · rcases hW with rfl | rfl
      · exact hgrow
      · exact ⟨hgrow.os, hgrow.tape, hgrow.output, hgrow.size, hgrow.block⟩

theorem rpost_set {w W : World} {o : List Int × ByteArray × Int} {a : Option Addr} {c n : Nat} {zs : List Int} {r : ByteArray} {sz : Int} (ho : o = (zs, r, sz)) (hn : zs.length = n) (hr : Rd W a zs) (hb : Below w.heap.size w W) (hne : ∀ b o s, a = some ⟨b, o, s⟩ → b ≠ w.heap.size + 1) (x0 x1 x2 : Value) :
    RPost w o (.returned (hash a n c r sz)) (((W.setCell ⟨w.heap.size + 1, 0, none⟩ x0).setCell ⟨w.heap.size + 1, 1, none⟩ x1).setCell ⟨w.heap.size + 1, 2, none⟩ x2) := by
  subst ho hn
  refine ⟨a, c, rfl, hr.block (fun b o' e hlt => ?_), ((hb.setCell (by simp) _).setCell (by simp) _).setCell (by simp) _⟩
  have := hne b o' none e
  rw [Below.heap_setCell _ _ _ _ (by simpa using this), Below.heap_setCell _ _ _ _ (by simpa using this), Below.heap_setCell _ _ _ _ (by simpa using this)]

set_option maxRecDepth 100000 in
set_option maxHeartbeats 1000000 in
theorem hmore_any (b0 off cap : Nat) (zs : List Int) (r t : ByteArray) (size : Int) (w : World) (hl : zs.length ≤ 1048576) (hr : Rd w (some ⟨b0, off, none⟩) zs) (hb0 : b0 < w.heap.size) (hrs : r.size ≤ 1048576) (hts : t.size ≤ 1048576) (hs0 : -9223372036854775808 ≤ size) (hs1 : size ≤ 9223372036854775807) :
    Calls Tryd.prog 19 #[hash (some ⟨b0, off, none⟩) zs.length cap r size, .string t] w fun e w' => RPost w (moreH zs r size t) e w' := by
  by_cases h1 : 20000 < (t.size : Int)
  · have E : moreH zs r size t = ([], ⟨#[]⟩, 0) := by unfold moreH; rw [if_pos (by omega)]
    rw [E]
    clear E
    unfold hash
    go_enter Tryd.func19, Tryd.ntmps19
    go_wp2
    exact bodyPost_ret (v := hash none 0 0 ⟨#[]⟩ 0) (by simp [results, Tryd.results19, go_sem, hash]) rfl ⟨none, 0, rfl, Rd.nil _, by
      repeat (first | exact below_alloc2 w _ _ | refine Below.setCell ?_ (by simp) _)⟩
  · have HR := mkHid (fun wx (hb : Below w.heap.size w wx) => right_any (some ⟨b0, off, none⟩) cap zs r size wx hl (hr.below hb) hrs)
    have h1' : (t.size : Int) ≤ 20000 := by omega
    unfold hash at HR ⊢
    go_enter Tryd.func19, Tryd.ntmps19
    go_wp2_with fail
    refine (HR.out _ (below_alloc2 w _ _)).mono ?_
    rintro e w1 ⟨rfl, hb1⟩
    have k0 := blk_below (blk_old (blk_new w (.cells #[.slice (some ⟨b0, off, none⟩) zs.length cap, .string r, .int .i64 size] 27) w.heap.size rfl) zeroH) hb1
    have k1 := blk_below (blk_new (w.alloc (.cells #[.slice (some ⟨b0, off, none⟩) zs.length cap, .string r, .int .i64 size] 27)) zeroH (w.heap.size + 1) (by simp)) hb1
    have B := below_allocs (os := [_, _]) hb1
    have hsz : w.heap.size + 1 < w1.heap.size := (Array.getElem?_eq_some_iff.1 k1).1
    have c0 : w1.cell? ⟨w.heap.size, 0, none⟩ = some (.slice (some ⟨b0, off, none⟩) zs.length cap) := cell_of_block k0 0
    have c1 : w1.cell? ⟨w.heap.size, 1, none⟩ = some (.string r) := cell_of_block k0 1
    have c2 : w1.cell? ⟨w.heap.size, 2, none⟩ = some (.int .i64 size) := cell_of_block k0 2
    have f0 : ∀ j, w1.frozen? ⟨w.heap.size, j, none⟩ = false := unfrozen_of_block k0
    have hr1 := mkHid (hr.below B)
    clear hb1 HR
    have hcase : ((hRight zs r size = false ∨ (hRight zs r size = true ∧ 1099511627776 < size + (t.size : Int) ∧ 0 ≤ size ∧ size ≤ 1099511627776)) ∧ moreH zs r size t = (zs, r, size)) ∨ (hRight zs r size = true ∧ size + (t.size : Int) ≤ 1099511627776) := by
      cases hR : hRight zs r size
      · exact .inl ⟨.inl rfl, by unfold moreH; rw [if_neg (by omega), if_pos (.inl hR)]⟩
      · by_cases h2 : 1099511627776 < size + (t.size : Int)
        · exact .inl ⟨.inr ⟨rfl, h2, (hRight_parts hR).2.1, (hRight_parts hR).2.2.1⟩, by unfold moreH; rw [if_neg (by omega), if_pos (.inr h2)]⟩
        · exact .inr ⟨rfl, by omega⟩
    have hne0 : ¬ w.heap.size = w1.heap.size := by omega
    have hne1 : ¬ w.heap.size + 1 = w1.heap.size := by omega
    rcases hcase with ⟨hcase, E⟩ | ⟨hR, h2⟩
    · have BB := B.alloc B.size (.cells #[] 2)
      obtain ⟨g, c, w2, hrun, hg, hrd, hgr⟩ := appZ b0 off cap zs (w1.alloc (.cells #[] 2)) _ (.inl rfl) w1.heap.size w1.heap.size (World.ownsRow_made w1 #[] 0 (Nat.le_refl _) (by decide) rfl) (by simp) (hr1.out.alloc _) hl
      have x0 := grown_blk (blk_old k0 (.cells #[] 2)) hgr (fun e => by injection e; omega)
      have x1 := grown_blk (blk_old k1 (.cells #[] 2)) hgr (fun e => by injection e; omega)
      have d0 : w2.cell? ⟨w.heap.size, 0, none⟩ = some (.slice (some ⟨b0, off, none⟩) zs.length cap) := cell_of_block x0 0
      have d1 : w2.cell? ⟨w.heap.size, 1, none⟩ = some (.string r) := cell_of_block x0 1
      have d2 : w2.cell? ⟨w.heap.size, 2, none⟩ = some (.int .i64 size) := cell_of_block x0 2
      have g0 : ∀ j, w2.frozen? ⟨w.heap.size, j, none⟩ = false := unfrozen_of_block x0
      have e0 : w2.cell? ⟨w.heap.size + 1, 0, none⟩ = some (.slice none 0 0) := cell_of_block x1 0
      have e1 : w2.cell? ⟨w.heap.size + 1, 1, none⟩ = some (.string ⟨#[]⟩) := cell_of_block x1 1
      have e2 : w2.cell? ⟨w.heap.size + 1, 2, none⟩ = some (.int .i64 0) := cell_of_block x1 2
      have g1 : ∀ j, w2.frozen? ⟨w.heap.size + 1, j, none⟩ = false := unfrozen_of_block x1
      have L2 := grown_below BB (by simp; omega) hgr (by omega)
      have v0 : (w1.alloc (.cells #[] 2)).cell? ⟨w.heap.size, 0, none⟩ = some (.slice (some ⟨b0, off, none⟩) zs.length cap) := cell_of_block (blk_old k0 _) 0
      have P := fun y0 y1 y2 y3 => rpost_set (w := w) (W := w2.setCell ⟨w.heap.size, 0, none⟩ y0) (a := some ⟨g, 0, none⟩) (c := c) E rfl (hrd.block (fun b o e _ => Below.heap_setCell _ _ _ _ (by simp at e; simp; omega))) (L2.setCell (by simp) _) (fun b o s e => by simp at e; omega) y1 y2 y3
      have PP := mkHid P
      clear P E L2 x0 x1 hgr hg hrd BB hr1 B k0 k1 hr
      generalize hRight zs r size = R at *
      rcases hcase with rfl | ⟨rfl, h3, h4, h5⟩
      all_goals
        go_wp2
        exact bodyPost_ret (v := hash (some ⟨g, 0, none⟩) zs.length c r size) (by simp [results, Tryd.results19, go_sem, e0, e1, e2, hash]) rfl (PP.out _ _ _ _)
    · obtain ⟨p1, p2, p3, p4, p5⟩ := hRight_parts hR
      have E : moreH zs r size t = (list8 (after (fn zs) (r ++ t) ((r ++ t).size / 64)), rest (r ++ t), size + t.size) := by unfold moreH; rw [if_neg (by omega), if_neg (by rw [hR]; simp; omega)]
      have HM := mkHid (more_any b0 off cap (fn zs) r t size w1 (by omega) p2 (by omega) (rd_fn hr1.out p1))
      rw [p1] at c0
      have BB := mkHid B
      have K1 := mkHid k1
      have E2 := mkHid E
      unfold hash at HM
      clear E hr hr1 k0 k1 B p4
      rw [hR]
      clear hR
      go_wp2_with fail
      refine HM.out.mono ?_
      rintro e w2 ⟨g, c, rfl, hg, hcs, hb2⟩
      have x1 := blk_below K1.out hb2
      have e0 : w2.cell? ⟨w.heap.size + 1, 0, none⟩ = some (.slice none 0 0) := cell_of_block x1 0
      have e1 : w2.cell? ⟨w.heap.size + 1, 1, none⟩ = some (.string ⟨#[]⟩) := cell_of_block x1 1
      have e2 : w2.cell? ⟨w.heap.size + 1, 2, none⟩ = some (.int .i64 0) := cell_of_block x1 2
      have g1 : ∀ j, w2.frozen? ⟨w.heap.size + 1, j, none⟩ = false := unfrozen_of_block x1
      have P := fun y1 y2 y3 => rpost_set (w := w) (W := w2) (a := some ⟨g, 0, none⟩) (c := c) E2.out (list8_len _) (rd8 hcs) (BB.out.trans (hb2.mono BB.out.size)) (fun b o s e => by simp at e; omega) y1 y2 y3
      have PP := mkHid P
      clear P x1 hcs hb2 hg HM E2
      unfold hash
      generalize rest (r ++ t) = rr at *
      go_wp2
      exact bodyPost_ret (v := hash (some ⟨g, 0, none⟩) 8 c rr (size + t.size)) (by simp [results, Tryd.results19, go_sem, e0, e1, e2, hash]) rfl (PP.out _ _ _)

set_option maxRecDepth 100000 in
theorem hend_any (b0 off cap : Nat) (zs : List Int) (r : ByteArray) (size : Int) (w : World) (hl : zs.length ≤ 1048576) (hr : Rd w (some ⟨b0, off, none⟩) zs) (hrs : r.size ≤ 1048576) :
    Calls Tryd.prog 24 #[hash (some ⟨b0, off, none⟩) zs.length cap r size] w fun e w' => e = .returned (.string (endH zs r size)) ∧ Below w.heap.size w w' := by
  have HR := mkHid (fun wx (hb : Below w.heap.size w wx) => right_any (some ⟨b0, off, none⟩) cap zs r size wx hl (hr.below hb) hrs)
  unfold hash at HR ⊢
  go_enter Tryd.func24, Tryd.ntmps24
  go_wp2_with fail
  refine (HR.out _ (below_alloc1 w _)).mono ?_
  rintro e w1 ⟨rfl, hb1⟩
  have k0 := blk_below (blk_new w (.cells #[.slice (some ⟨b0, off, none⟩) zs.length cap, .string r, .int .i64 size] 27) w.heap.size rfl) hb1
  have B := below_allocs (os := [_]) hb1
  have c0 : w1.cell? ⟨w.heap.size, 0, none⟩ = some (.slice (some ⟨b0, off, none⟩) zs.length cap) := cell_of_block k0 0
  have c1 : w1.cell? ⟨w.heap.size, 1, none⟩ = some (.string r) := cell_of_block k0 1
  have c2 : w1.cell? ⟨w.heap.size, 2, none⟩ = some (.int .i64 size) := cell_of_block k0 2
  have hr1 := mkHid (hr.below B)
  have BB := mkHid B
  clear hb1 HR k0 B
  cases hR : hRight zs r size
  · have E : endH zs r size = ⟨#[]⟩ := by unfold endH; rw [hR]; rfl
    have EE := mkHid E
    clear E
    go_wp2
    go_ret
    exact ⟨word.ret_eq (by rw [EE.out]; rfl), BB.out⟩
  · obtain ⟨p1, p2, p3, p4, p5⟩ := hRight_parts hR
    have E : endH zs r size = dig (fn zs) r size := by unfold endH; rw [if_pos hR]
    have EE := mkHid E
    have HE := mkHid (end_any b0 off cap (fn zs) r size w1 (rd_fn hr1.out p1) (by omega) p2 p3)
    unfold hash at HE
    clear E hr hr1 p4
    rw [p1] at c0
    go_wp2_with fail
    refine HE.out.mono ?_
    rintro e w2 ⟨rfl, hb2⟩
    have B2 := mkHid (BB.out.trans (hb2.mono BB.out.size))
    go_wp2
    go_ret
    exact ⟨word.ret_eq (by rw [EE.out]; rfl), B2.out⟩
end Go.Proofs.YtkkndkikfphnbaaDoor.sha
