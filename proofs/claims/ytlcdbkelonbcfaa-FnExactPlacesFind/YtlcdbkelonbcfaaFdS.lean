/-
  What spec.l10Find and spec.PlacesFind answer and leave. Conditions: places that lie in memory, of texts of at most 1,048,576 bytes.
-/
import Derived.Test.YtlcdbkelonbcfaaPlRS
namespace Go.Proofs.Ytlcdbkelonbcfaa.plc
open Go.RowKit Go.Joins Go.Sort
open Go.Proofs.Ytlcdbkelonbcfaa.base Go.Proofs.Ytlcdbkelonbcfaa.blk Go.Proofs.Ytlcdbkelonbcfaa.aid
open Go.Proofs.Ytlcdbkelonbcfaa.ord
open Go.Proofs.Ytlcdbkelonbcfaa.row (Rd Own OwnV)
open Go.Proofs.Ytlcdbkelonbcfaa.rwPlace (cs el)
set_option linter.unusedVariables false
set_option linter.unusedSimpArgs false

/-- the first that has the key -/
def findP (l : List Pl) (k : ByteArray) : Option Pl := l.find? (fun p => p.1.toList == k.toList)
def zeroP : Pl := (⟨#[]⟩, ⟨#[]⟩, 0, 0, 0)
/-- what PlacesFind answers -/
def findA (l : List Pl) (k : ByteArray) : Pl × Int :=
  if 400 < l.length ∨ 20000 < k.size then (zeroP, 2) else if placesB l = false then (zeroP, 1) else match findP l k with | none => (zeroP, 8) | some p => (p, 0)
def outV (r : Pl × Int) : Value := .agg #[.string r.1.1, .string r.1.2.1, .int .i64 r.1.2.2.1, .int .i64 r.1.2.2.2.1, .int .i64 r.1.2.2.2.2, .int .i64 r.2]
theorem below5 {w w1 : World} {g : Nat} (hb : Below w.heap.size w w1) (hg : w.heap.size ≤ g) (x0 x1 x2 x3 x4 : Value) : Below w.heap.size w (((((w1.setCell ⟨g, 0, none⟩ x0).setCell ⟨g, 1, none⟩ x1).setCell ⟨g, 2, none⟩ x2).setCell ⟨g, 3, none⟩ x3).setCell ⟨g, 4, none⟩ x4) :=
  ((((hb.setCell (p := ⟨g, 0, none⟩) hg x0).setCell (p := ⟨g, 1, none⟩) hg x1).setCell (p := ⟨g, 2, none⟩) hg x2).setCell (p := ⟨g, 3, none⟩) hg x3).setCell (p := ⟨g, 4, none⟩) hg x4
theorem below6 {w w1 : World} {g : Nat} (hb : Below w.heap.size w w1) (hg : w.heap.size ≤ g) (x0 x1 x2 x3 x4 x5 : Value) : Below w.heap.size w ((((((w1.setCell ⟨g, 0, none⟩ x0).setCell ⟨g, 1, none⟩ x1).setCell ⟨g, 2, none⟩ x2).setCell ⟨g, 3, none⟩ x3).setCell ⟨g, 4, none⟩ x4).setCell ⟨g, 5, none⟩ x5) :=
  (below5 hb hg x0 x1 x2 x3 x4).setCell (p := ⟨g, 5, none⟩) hg x5
theorem cel6 {w : World} {g : Nat} {a b c d e f : Value} {t : TypeId} {z : Nat × Nat} (h : w.heap[g]? = some (.cells #[a, b, c, d, e, f] t z)) : w.cell? ⟨g, 0, none⟩ = some a ∧ w.cell? ⟨g, 1, none⟩ = some b ∧ w.cell? ⟨g, 2, none⟩ = some c ∧ w.cell? ⟨g, 3, none⟩ = some d ∧ w.cell? ⟨g, 4, none⟩ = some e ∧ w.cell? ⟨g, 5, none⟩ = some f := by
  simp [World.cell?, h]
def zeroO : Obj := .cells #[.string ⟨#[]⟩, .string ⟨#[]⟩, .int .i64 0, .int .i64 0, .int .i64 0] 40
/-- a result of the call's own: a Place and a code, nothing yet -/
def zeroR : Obj := .cells #[.string ⟨#[]⟩, .string ⟨#[]⟩, .int .i64 0, .int .i64 0, .int .i64 0, .int .i64 0] 42
def FdPost (w : World) (l : List Pl) (k : ByteArray) (e : Ending) (w' : World) : Prop :=
  ((∃ x0 x1 x2 x3 x4, findP l k = some (x0, x1, x2, x3, x4) ∧ e = .returned (.tuple #[.agg #[.string x0, .string x1, .int .i64 x2, .int .i64 x3, .int .i64 x4], .bool true])) ∨
   (findP l k = none ∧ e = .returned (.tuple #[.agg #[.string ⟨#[]⟩, .string ⟨#[]⟩, .int .i64 0, .int .i64 0, .int .i64 0], .bool false]))) ∧ Below w.heap.size w w'
set_option maxRecDepth 100000 in
set_option maxHeartbeats 1000000 in
theorem findS_any (a : Option Addr) (c : Nat) (l : List Pl) (k : ByteArray) (w : World) (hl : l.length ≤ 1048576) (hr : Rd w a (cs l)) :
    Calls Try.prog 43 #[.slice a l.length c, .string k] w (FdPost w l k) := by
  have hr0 := hr.alloc zeroO
  have hb0 := blk_new w zeroO w.heap.size rfl
  have HB0 := mkHid (below_alloc1 w zeroO)
  unfold zeroO at hb0 hr0 HB0
  obtain ⟨z0, z1, z2, z3, z4⟩ := cel5 hb0
  have uf := unfrozen hb0
  have hli : (l.length : Int) ≤ 1048576 := by omega
  go_enter Try.func43, Try.ntmps43
  go_wp2_with fail
  generalize hW : w.alloc (.cells #[.string ⟨#[]⟩, .string ⟨#[]⟩, .int .i64 0, .int .i64 0, .int .i64 0] 40) = W at *
  clear hW hb0 hr
  go_loopw [6] (fun i wr => ∃ q : Nat, q ≤ l.length ∧ i = .int .i64 q ∧ wr = W ∧ Hid (findP l k = findP (l.drop q) k)) (fun i _ => l.length - (intOf i).toNat)
  case atStart => exact ⟨0, Nat.zero_le _, rfl, rfl, mkHid rfl⟩
  case round =>
    obtain ⟨q, hq, rfl, rfl, hF⟩ := hrel
    by_cases hlt : q < l.length
    · have hlti : (q : Int) < (l.length : Int) := by omega
      obtain ⟨⟨x0, x1, x2, x3, x4⟩, hx⟩ : ∃ y, l[q]? = some y := ⟨_, List.getElem?_eq_getElem hlt⟩
      obtain ⟨g1, o1, rfl, c0, c1, c2, c3, c4, l1⟩ := el hr0 hx
      simp only at c0 c1 c2 c3 c4
      have hd : l.drop q = (x0, x1, x2, x3, x4) :: l.drop (q + 1) := by rw [List.drop_eq_getElem_cons hlt, (List.getElem?_eq_some_iff.1 hx).2]
      cases he : (x0.toList == k.toList) with
      | true =>
        have E := mkHid (show findP l k = some (x0, x1, x2, x3, x4) by rw [hF.out, hd]; unfold findP; rw [List.find?_cons_of_pos (by exact he)])
        have HB := mkHid (below5 HB0.out (Nat.le_refl _) (.string x0) (.string x1) (.int .i64 x2) (.int .i64 x3) (.int .i64 x4))
        clear hF hd hx HB0
        go_wp2
        refine bodyPost_ret (v := .tuple #[.agg #[.string x0, .string x1, .int .i64 x2, .int .i64 x3, .int .i64 x4], .bool true]) ?_ rfl ?_
        rotate_left
        · exact ⟨.inl ⟨_, _, _, _, _, E.out, rfl⟩, HB.out⟩
        · simp [results, Try.results43, go_sem, z0, z1, z2, z3, z4]
      | false =>
        have N1 := mkHid (show findP l k = findP (l.drop (q + 1)) k by rw [hF.out, hd]; unfold findP; rw [List.find?_cons_of_neg (by rw [he]; simp)])
        clear hF hd hx
        go_wp2
        go_roundw
        case rel => exact ⟨q + 1, by omega, by go_num, by first | rfl | trivial, N1⟩
        case measure => simp [intOf]; omega
    · obtain rfl : q = l.length := by omega
      have E := mkHid (show findP l k = none by rw [hF.out, List.drop_of_length_le (Nat.le_refl _)]; rfl)
      have HB := mkHid (below5 HB0.out (Nat.le_refl _) (.string ⟨#[]⟩) (.string ⟨#[]⟩) (.int .i64 0) (.int .i64 0) (.int .i64 0))
      clear hF HB0
      go_wp2
      refine bodyPost_ret (v := .tuple #[.agg #[.string ⟨#[]⟩, .string ⟨#[]⟩, .int .i64 0, .int .i64 0, .int .i64 0], .bool false]) ?_ rfl ?_
      rotate_left
      · exact ⟨.inr ⟨E.out, rfl⟩, HB.out⟩
      · simp [results, Try.results43, go_sem, z0, z1, z2, z3, z4]

set_option maxRecDepth 100000 in
set_option maxHeartbeats 2000000 in
theorem placesFindS_any (a : Option Addr) (c : Nat) (l : List Pl) (k : ByteArray) (w : World) (hl : l.length ≤ 1048576) (hs : Small l) (hk : k.size ≤ 1048576) (hr : Rd w a (cs l)) :
    Calls Try.prog 18 #[.slice a l.length c, .string k] w fun e w' => e = .returned (outV (findA l k)) ∧ Below w.heap.size w w' := by
  have hr0 := hr.alloc zeroR
  have hb0 := blk_new w zeroR w.heap.size rfl
  have HB0 := mkHid (below_alloc1 w zeroR)
  unfold zeroR at hb0 hr0 HB0
  obtain ⟨z0, z1, z2, z3, z4, z5⟩ := cel6 hb0
  have uf := unfrozen hb0
  have hki : (k.size : Int) ≤ 1048576 := by omega
  by_cases h1 : 400 < l.length
  · have E : Hid (outV (findA l k) = .agg #[.string ⟨#[]⟩, .string ⟨#[]⟩, .int .i64 0, .int .i64 0, .int .i64 0, .int .i64 2]) := mkHid (by unfold findA; rw [if_pos (.inl h1)]; rfl)
    have h1i : (400 : Int) < (l.length : Int) := by omega
    clear hr hr0 hb0 HB0
    go_enter Try.func18, Try.ntmps18
    go_wp2
    refine bodyPost_ret (v := .agg #[.string ⟨#[]⟩, .string ⟨#[]⟩, .int .i64 0, .int .i64 0, .int .i64 0, .int .i64 2]) ?_ rfl ?_
    rotate_left
    · exact ⟨by rw [E.out], below_alloc1 _ _⟩
    · simp [results, Try.results18, go_sem]
  by_cases h2 : 20000 < k.size
  · have E : Hid (outV (findA l k) = .agg #[.string ⟨#[]⟩, .string ⟨#[]⟩, .int .i64 0, .int .i64 0, .int .i64 0, .int .i64 2]) := mkHid (by unfold findA; rw [if_pos (.inr h2)]; rfl)
    have h1i : (l.length : Int) ≤ 400 := by omega
    have h2i : (20000 : Int) < (k.size : Int) := by omega
    clear hr hr0 hb0 HB0
    go_enter Try.func18, Try.ntmps18
    go_wp2
    refine bodyPost_ret (v := .agg #[.string ⟨#[]⟩, .string ⟨#[]⟩, .int .i64 0, .int .i64 0, .int .i64 0, .int .i64 2]) ?_ rfl ?_
    rotate_left
    · exact ⟨by rw [E.out], below_alloc1 _ _⟩
    · simp [results, Try.results18, go_sem]
  have h1i : (l.length : Int) ≤ 400 := by omega
  have h2i : (k.size : Int) ≤ 20000 := by omega
  have HR := mkHid (fun wx (hb : Below w.heap.size w wx) => rightS_any a c l wx hl hs (hr.below hb))
  cases hp : placesB l with
  | false =>
    rw [hp] at HR
    have E : Hid (outV (findA l k) = .agg #[.string ⟨#[]⟩, .string ⟨#[]⟩, .int .i64 0, .int .i64 0, .int .i64 0, .int .i64 1]) := mkHid (by unfold findA; rw [if_neg (by omega), if_pos hp]; rfl)
    have hb1 := mkHid hb0
    clear z0 z1 z2 z3 z4 z5 uf hr hr0 hb0
    go_enter Try.func18, Try.ntmps18
    go_wp2_with fail
    refine (HR.out _ HB0.out).mono ?_
    rintro e w1 ⟨rfl, hbw⟩
    have hb2 := blk_below hb1.out hbw
    have HB2 := mkHid (below_trans HB0.out hbw)
    obtain ⟨z0, z1, z2, z3, z4, z5⟩ := cel6 hb2
    have uf := unfrozen hb2
    have HB := mkHid (below6 HB2.out (Nat.le_refl _) (.string ⟨#[]⟩) (.string ⟨#[]⟩) (.int .i64 0) (.int .i64 0) (.int .i64 0) (.int .i64 1))
    clear hbw hb2 hb1 HB0 HR
    go_wp2
    refine bodyPost_ret (v := .agg #[.string ⟨#[]⟩, .string ⟨#[]⟩, .int .i64 0, .int .i64 0, .int .i64 0, .int .i64 1]) ?_ rfl ?_
    rotate_left
    · exact ⟨by rw [E.out], HB.out⟩
    · simp [results, Try.results18, go_sem, z0, z1, z2, z3, z4, z5]
  | true =>
    rw [hp] at HR
    have HF := mkHid (fun wx (hb : Below w.heap.size w wx) => findS_any a c l k wx hl (hr.below hb))
    have hb1 := mkHid hb0
    clear z0 z1 z2 z3 z4 z5 uf hr hr0 hb0
    go_enter Try.func18, Try.ntmps18
    go_wp2_with fail
    refine (HR.out _ HB0.out).mono ?_
    rintro e w1 ⟨rfl, hbw⟩
    have hb2 := mkHid (blk_below hb1.out hbw)
    have HB2 := mkHid (below_trans HB0.out hbw)
    clear hbw hb1 HB0 HR
    go_wp2_with fail
    refine (HF.out _ HB2.out).mono ?_
    rintro e w2 ⟨⟨x0, x1, x2, x3, x4, hf, rfl⟩ | ⟨hf, rfl⟩, hbw⟩
    · have E : Hid (outV (findA l k) = .agg #[.string x0, .string x1, .int .i64 x2, .int .i64 x3, .int .i64 x4, .int .i64 0]) := mkHid (by unfold findA; rw [if_neg (by omega), if_neg (by rw [hp]; simp), hf]; rfl)
      have hb3 := blk_old (blk_below hb2.out hbw) (.cells #[.string x0, .string x1, .int .i64 x2, .int .i64 x3, .int .i64 x4] 40)
      have HB3 := mkHid (below_trans HB2.out hbw)
      have HB4 := mkHid (HB3.out.alloc HB3.out.size (.cells #[.string x0, .string x1, .int .i64 x2, .int .i64 x3, .int .i64 x4] 40))
      obtain ⟨z0, z1, z2, z3, z4, z5⟩ := cel6 hb3
      have uf := unfrozen hb3
      have HB := mkHid (below6 HB4.out (Nat.le_refl _) (.string x0) (.string x1) (.int .i64 x2) (.int .i64 x3) (.int .i64 x4) (.int .i64 0))
      have hsz := hbw.size
      have hsz2 := HB2.out.size
      clear hbw hb3 hb2 HB2 HF hf HB3 HB4
      go_wp2
      refine bodyPost_ret (v := .agg #[.string x0, .string x1, .int .i64 x2, .int .i64 x3, .int .i64 x4, .int .i64 0]) ?_ rfl ?_
      rotate_left
      · exact ⟨by rw [E.out], HB.out⟩
      · simp [results, Try.results18, go_sem, z0, z1, z2, z3, z4, z5]
    · have E : Hid (outV (findA l k) = .agg #[.string ⟨#[]⟩, .string ⟨#[]⟩, .int .i64 0, .int .i64 0, .int .i64 0, .int .i64 8]) := mkHid (by unfold findA; rw [if_neg (by omega), if_neg (by rw [hp]; simp), hf]; rfl)
      have hb3 := blk_old (blk_below hb2.out hbw) (.cells #[.string ⟨#[]⟩, .string ⟨#[]⟩, .int .i64 0, .int .i64 0, .int .i64 0] 40)
      have HB3 := mkHid (below_trans HB2.out hbw)
      have HB4 := mkHid (HB3.out.alloc HB3.out.size (.cells #[.string ⟨#[]⟩, .string ⟨#[]⟩, .int .i64 0, .int .i64 0, .int .i64 0] 40))
      obtain ⟨z0, z1, z2, z3, z4, z5⟩ := cel6 hb3
      have uf := unfrozen hb3
      have HB := mkHid (below6 HB4.out (Nat.le_refl _) (.string ⟨#[]⟩) (.string ⟨#[]⟩) (.int .i64 0) (.int .i64 0) (.int .i64 0) (.int .i64 8))
      have hsz := hbw.size
      have hsz2 := HB2.out.size
      clear hbw hb3 hb2 HB2 HF hf HB3 HB4
      go_wp2
      refine bodyPost_ret (v := .agg #[.string ⟨#[]⟩, .string ⟨#[]⟩, .int .i64 0, .int .i64 0, .int .i64 0, .int .i64 8]) ?_ rfl ?_
      rotate_left
      · exact ⟨by rw [E.out], HB.out⟩
      · simp [results, Try.results18, go_sem, z0, z1, z2, z3, z4, z5]
end Go.Proofs.Ytlcdbkelonbcfaa.plc
