/-
  What impl.findKey and impl.PlacesFind answer and leave. Conditions: places that lie in memory, of texts of at most 1,048,576 bytes.
-/
import Derived.Test.YtlcdbkelonbcfaaFdI
namespace Go.Proofs.Ytlcdbkelonbcfaa.plc
open Go.RowKit Go.Joins Go.Sort
open Go.Proofs.Ytlcdbkelonbcfaa.base Go.Proofs.Ytlcdbkelonbcfaa.blk Go.Proofs.Ytlcdbkelonbcfaa.aid
open Go.Proofs.Ytlcdbkelonbcfaa.ord
open Go.Proofs.Ytlcdbkelonbcfaa.row (Rd Own OwnV)
open Go.Proofs.Ytlcdbkelonbcfaa.rwPlace (cs el)
set_option linter.unusedVariables false
set_option linter.unusedSimpArgs false

theorem index_none (a : Option Addr) (c : Nat) (fv : Value) (w : World) :
    Calls Try.prog 78 #[.slice a 0 c, fv] w fun e w' => e = .returned (.int .i64 (-1)) ∧ w' = w := by
  go_enter Try.func78, Try.ntmps78
  go_wp2
  go_loopw [8] (fun i wr => i = .int .i64 0 ∧ wr = w) (fun i _ => 0)
  case atStart => exact ⟨rfl, rfl⟩
  case round =>
    obtain ⟨rfl, rfl⟩ := hrel
    go_wp2
    go_ret
    exact ⟨rfl, rfl⟩
/-- what IndexFunc tells: none, or the first that has the key -/
def IxPost (w : World) (l : List Pl) (k : ByteArray) (e : Ending) (w' : World) : Prop :=
  ((findP l k = none ∧ e = .returned (.int .i64 (-1))) ∨ ∃ (i : Nat) (p : Pl), findP l k = some p ∧ l[i]? = some p ∧ e = .returned (.int .i64 (i : Int))) ∧ Below w.heap.size w w'
theorem indexP_any (a : Option Addr) (c : Nat) (l : List Pl) (k : ByteArray) (B : Nat) (w : World) (hl : l.length ≤ 1048576) (hB : B < w.heap.size) (hcell : w.cell? ⟨B, 0, none⟩ = some (.string k)) (hr : Rd w a (cs l)) :
    Calls Try.prog 78 #[.slice a l.length c, .func (.func 79) #[] #[.pointer (some ⟨B, 0, none⟩)]] w (IxPost w l k) := by
  by_cases hne : l = []
  · subst hne
    refine (index_none a c _ w).mono ?_
    rintro e w' ⟨rfl, rfl⟩
    exact ⟨.inl ⟨rfl, rfl⟩, Below.refl _ _⟩
  · refine (index_any a c l k B w hl hne hB hcell hr).mono ?_
    rintro e w' ⟨rfl, hb⟩
    rcases idx_is l k with ⟨h1, h2⟩ | ⟨i, p, h1, h2, h3⟩
    · exact ⟨.inl ⟨h1, by rw [h2]⟩, hb⟩
    · exact ⟨.inr ⟨i, p, h1, h2, by rw [h3]⟩, hb⟩

set_option maxRecDepth 100000 in
set_option maxHeartbeats 1000000 in
theorem findKey_any (a : Option Addr) (c : Nat) (l : List Pl) (k : ByteArray) (w : World) (hl : l.length ≤ 1048576) (hr : Rd w a (cs l)) :
    Calls Try.prog 46 #[.slice a l.length c, .string k] w (IxPost w l k) := by
  have HB0 := mkHid (below_alloc1 w (.cells #[.string k] 9))
  have b1 := mkHid (blk_new w (.cells #[.string k] 9) w.heap.size rfl)
  have HF := mkHid (fun wx (hb : Below w.heap.size w wx) (hB : w.heap.size < wx.heap.size) (hc : wx.cell? ⟨w.heap.size, 0, none⟩ = some (.string k)) => indexP_any a c l k w.heap.size wx hl hB hc (hr.below hb))
  unfold IxPost at HF
  clear hr
  go_enter Try.func46, Try.ntmps46
  go_wp2_with fail
  refine (HF.out _ HB0.out (by simp) (cel1 b1.out)).mono ?_
  rintro e w2 ⟨⟨hf, rfl⟩ | ⟨i, ⟨x0, x1, x2, x3, x4⟩, hf, hi, rfl⟩, hbw⟩
  · have HB := mkHid (below_trans HB0.out hbw)
    clear hbw HF
    go_wp2
    go_ret
    exact ⟨.inl ⟨hf, rfl⟩, HB.out⟩
  · have HB := mkHid (below_trans HB0.out hbw)
    have HI := mkHid hi
    clear hbw HF hi
    go_wp2
    go_ret
    exact ⟨.inr ⟨i, _, hf, HI.out, rfl⟩, HB.out⟩

set_option maxRecDepth 100000 in
set_option maxHeartbeats 2000000 in
theorem placesFindI_any (a : Option Addr) (c : Nat) (l : List Pl) (k : ByteArray) (w : World) (hl : l.length ≤ 1048576) (hs : Small l) (hk : k.size ≤ 1048576) (hr : Rd w a (cs l)) :
    Calls Try.prog 20 #[.slice a l.length c, .string k] w fun e w' => e = .returned (outV (findA l k)) ∧ Below w.heap.size w w' := by
  have hki : (k.size : Int) ≤ 1048576 := by omega
  by_cases h1 : 400 < l.length
  · have E : Hid (outV (findA l k) = .agg #[.string ⟨#[]⟩, .string ⟨#[]⟩, .int .i64 0, .int .i64 0, .int .i64 0, .int .i64 2]) := mkHid (by unfold findA; rw [if_pos (.inl h1)]; rfl)
    have h1i : (400 : Int) < (l.length : Int) := by omega
    clear hr
    go_enter Try.func20, Try.ntmps20
    go_wp2
    refine bodyPost_ret (v := .agg #[.string ⟨#[]⟩, .string ⟨#[]⟩, .int .i64 0, .int .i64 0, .int .i64 0, .int .i64 2]) ?_ rfl ?_
    rotate_left
    · exact ⟨by rw [E.out], below_alloc1 _ _⟩
    · simp [results, Try.results20, go_sem]
  by_cases h2 : 20000 < k.size
  · have E : Hid (outV (findA l k) = .agg #[.string ⟨#[]⟩, .string ⟨#[]⟩, .int .i64 0, .int .i64 0, .int .i64 0, .int .i64 2]) := mkHid (by unfold findA; rw [if_pos (.inr h2)]; rfl)
    have h1i : (l.length : Int) ≤ 400 := by omega
    have h2i : (20000 : Int) < (k.size : Int) := by omega
    clear hr
    go_enter Try.func20, Try.ntmps20
    go_wp2
    refine bodyPost_ret (v := .agg #[.string ⟨#[]⟩, .string ⟨#[]⟩, .int .i64 0, .int .i64 0, .int .i64 0, .int .i64 2]) ?_ rfl ?_
    rotate_left
    · exact ⟨by rw [E.out], below_alloc1 _ _⟩
    · simp [results, Try.results20, go_sem]
  have h1i : (l.length : Int) ≤ 400 := by omega
  have h2i : (k.size : Int) ≤ 20000 := by omega
  have HR := mkHid (fun wx (hb : Below w.heap.size w wx) => rightI_any a c l wx hl hs (hr.below hb))
  have HB0 := mkHid (below_alloc1 w zeroR)
  have b2 := mkHid (blk_new w zeroR w.heap.size rfl)
  unfold zeroR at b2 HB0
  cases hp : placesB l with
  | false =>
    rw [hp] at HR
    have E : Hid (outV (findA l k) = .agg #[.string ⟨#[]⟩, .string ⟨#[]⟩, .int .i64 0, .int .i64 0, .int .i64 0, .int .i64 1]) := mkHid (by unfold findA; rw [if_neg (by omega), if_pos hp]; rfl)
    clear hr
    go_enter Try.func20, Try.ntmps20
    go_wp2_with fail
    refine (HR.out _ HB0.out).mono ?_
    rintro e w1 ⟨rfl, hbw⟩
    have hb2 := blk_below b2.out hbw
    have HB2 := mkHid (below_trans HB0.out hbw)
    obtain ⟨z0, z1, z2, z3, z4, z5⟩ := cel6 hb2
    have uf := unfrozen hb2
    have HB := mkHid (below6 HB2.out (g := w.heap.size) (Nat.le_refl _) (.string ⟨#[]⟩) (.string ⟨#[]⟩) (.int .i64 0) (.int .i64 0) (.int .i64 0) (.int .i64 1))
    clear hbw hb2 b2 HB0 HR
    go_wp2
    refine bodyPost_ret (v := .agg #[.string ⟨#[]⟩, .string ⟨#[]⟩, .int .i64 0, .int .i64 0, .int .i64 0, .int .i64 1]) ?_ rfl ?_
    rotate_left
    · exact ⟨by rw [E.out], HB.out⟩
    · simp [results, Try.results20, go_sem, z0, z1, z2, z3, z4, z5]
  | true =>
    rw [hp] at HR
    have HF := mkHid (fun wx (hb : Below w.heap.size w wx) => findKey_any a c l k wx hl (hr.below hb))
    unfold IxPost at HF
    have HRd := mkHid hr
    clear hr
    go_enter Try.func20, Try.ntmps20
    go_wp2_with fail
    refine (HR.out _ HB0.out).mono ?_
    rintro e w1 ⟨rfl, hbw⟩
    have d2 := mkHid (blk_below b2.out hbw)
    have HB2 := mkHid (below_trans HB0.out hbw)
    clear hbw b2 HB0 HR
    go_wp2_with fail
    refine (HF.out _ HB2.out).mono ?_
    rintro e w2 ⟨⟨hf, rfl⟩ | ⟨i, ⟨x0, x1, x2, x3, x4⟩, hf, hi, rfl⟩, hbw⟩
    · have E : Hid (outV (findA l k) = .agg #[.string ⟨#[]⟩, .string ⟨#[]⟩, .int .i64 0, .int .i64 0, .int .i64 0, .int .i64 8]) := mkHid (by unfold findA; rw [if_neg (by omega), if_neg (by rw [hp]; simp), hf]; rfl)
      have hb3 := blk_below d2.out hbw
      have HB3 := mkHid (below_trans HB2.out hbw)
      obtain ⟨z0, z1, z2, z3, z4, z5⟩ := cel6 hb3
      have uf := unfrozen hb3
      have HB := mkHid (below6 HB3.out (g := w.heap.size) (Nat.le_refl _) (.string ⟨#[]⟩) (.string ⟨#[]⟩) (.int .i64 0) (.int .i64 0) (.int .i64 0) (.int .i64 8))
      clear hbw hb3 HB2 HF hf HB3 d2 HRd
      go_wp2
      refine bodyPost_ret (v := .agg #[.string ⟨#[]⟩, .string ⟨#[]⟩, .int .i64 0, .int .i64 0, .int .i64 0, .int .i64 8]) ?_ rfl ?_
      rotate_left
      · exact ⟨by rw [E.out], HB.out⟩
      · simp [results, Try.results20, go_sem, z0, z1, z2, z3, z4, z5]
    · have E : Hid (outV (findA l k) = .agg #[.string x0, .string x1, .int .i64 x2, .int .i64 x3, .int .i64 x4, .int .i64 0]) := mkHid (by unfold findA; rw [if_neg (by omega), if_neg (by rw [hp]; simp), hf]; rfl)
      have HB3 := mkHid (below_trans HB2.out hbw)
      have d3 := mkHid (blk_below d2.out hbw)
      obtain ⟨g1, o1, rfl, c0, c1, c2, c3, c4, l1⟩ := el (HRd.out.below HB3.out) hi
      simp only at c0 c1 c2 c3 c4
      have hil : (i : Int) < (l.length : Int) := by have := (List.getElem?_eq_some_iff.1 hi).1; omega
      have hsx := hs _ (List.mem_of_getElem? hi)
      simp only at hsx
      have HC := mkHid (fun wx => copyPlace_any x0 x1 x2 x3 x4 wx hsx.1 hsx.2)
      have hneg : ((i : Int) < 0) = False := eq_false (by omega)
      clear hbw HB2 HF hf d2 HRd hi
      go_wp2_with fail
      refine (HC.out _).mono ?_
      rintro e w3 ⟨rfl, hbw⟩
      have hb3 := blk_below d3.out hbw
      have HB4 := mkHid (below_trans HB3.out hbw)
      obtain ⟨z0, z1, z2, z3, z4, z5⟩ := cel6 hb3
      have uf := unfrozen hb3
      have HB := mkHid (below6 HB4.out (g := w.heap.size) (Nat.le_refl _) (.string x0) (.string x1) (.int .i64 x2) (.int .i64 x3) (.int .i64 x4) (.int .i64 0))
      clear hbw hb3 HB3 HB4 HC d3 c0 c1 c2 c3 c4
      go_wp2
      refine bodyPost_ret (v := .agg #[.string x0, .string x1, .int .i64 x2, .int .i64 x3, .int .i64 x4, .int .i64 0]) ?_ rfl ?_
      rotate_left
      · exact ⟨by rw [E.out], HB.out⟩
      · simp [results, Try.results20, go_sem, z0, z1, z2, z3, z4, z5]
end Go.Proofs.Ytlcdbkelonbcfaa.plc
