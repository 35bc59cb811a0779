/-
  What spec.PlacesAdd answers and leaves. Conditions: places that lie in memory, of texts of at most 1,048,576 bytes.
-/
import Derived.Test.YtppjbmmeacmoiaaAdP
import Derived.Test.YtppjbmmeacmoiaaBySp
namespace Go.Proofs.Ytppjbmmeacmoiaa.plc
open Go.RowKit Go.Joins Go.Sort
open Go.Proofs.Ytppjbmmeacmoiaa.base Go.Proofs.Ytppjbmmeacmoiaa.blk Go.Proofs.Ytppjbmmeacmoiaa.aid
open Go.Proofs.Ytppjbmmeacmoiaa.row (Rd Own OwnV)
open Go.Proofs.Ytppjbmmeacmoiaa.rwPlace (cs el)
set_option linter.unusedVariables false
set_option linter.unusedSimpArgs false

/-- what PlacesAdd answers -/
def addA (a b : List Pl) : List Pl × Int :=
  if 400 < a.length ∨ 400 < b.length then ([], 2) else if placesB a = false ∨ placesB b = false then ([], 1) else if 300 < (b.foldl put a).length then ([], 11) else (b.foldl put a, 0)
theorem puts_le : ∀ (b a : List Pl), (b.foldl put a).length ≤ a.length + b.length
  | [], a => by simp
  | x :: b, a => by
    have h := puts_le b (put a x)
    have h2 := put_len a x
    simp only [List.foldl_cons, List.length_cons]
    omega
theorem addA_len (a b : List Pl) : (addA a b).1.length ≤ 300 := by
  unfold addA
  split
  · simp
  split
  · simp
  split
  · simp
  · simp only; omega
/-- a result of the call's own: a row and a code, nothing yet -/
def zeroA : Obj := .cells #[.slice none 0 0, .int .i64 0] 30
/-- the answer and what is left -/
def APost (w : World) (r : List Pl × Int) (e : Ending) (w' : World) : Prop :=
  ∃ a' c', e = .returned (.agg #[.slice a' r.1.length c', .int .i64 r.2]) ∧ Rd w' a' (cs r.1) ∧ (∀ b o s, a' = some ⟨b, o, s⟩ → w.heap.size ≤ b) ∧ Below w.heap.size w w' ∧ r.1.length ≤ c'
theorem belowS {w w1 : World} {g : Nat} (hb : Below w.heap.size w w1) (hg : w.heap.size ≤ g) (x0 x1 : Value) : Below w.heap.size w ((w1.setCell ⟨g, 0, none⟩ x0).setCell ⟨g, 1, none⟩ x1) :=
  (hb.setCell (p := ⟨g, 0, none⟩) hg x0).setCell (p := ⟨g, 1, none⟩) hg x1
theorem apost_no {w w1 : World} {r : List Pl × Int} {k : Int} (hb : Below w.heap.size w w1) (hr : r = ([], k)) : APost w r (.returned (.agg #[.slice none 0 0, .int .i64 k])) ((w1.setCell ⟨w.heap.size, 0, none⟩ (.slice none 0 0)).setCell ⟨w.heap.size, 1, none⟩ (.int .i64 k)) := by
  subst hr
  exact ⟨none, 0, rfl, Rd.nil _ _, (fun _ _ _ e => by cases e), belowS hb (Nat.le_refl _) _ _, Nat.le_refl _⟩
theorem apost_new {w : World} {r : List Pl × Int} {k : Int} (hr : r = ([], k)) : APost w r (.returned (.agg #[.slice none 0 0, .int .i64 k])) (w.alloc (.cells #[.slice none 0 0, .int .i64 k] 30)) := by
  subst hr
  exact ⟨none, 0, rfl, Rd.nil _ _, (fun _ _ _ e => by cases e), below_alloc1 _ _, Nat.le_refl _⟩
theorem apost_of {w w1 : World} {r : List Pl × Int} {a' : Option Addr} {n c' : Nat} {k : Int} (hb : Below w.heap.size w w1) (hn : r.1.length = n) (hk : r.2 = k) (hrd : Rd w1 a' (cs r.1)) (hf : ∀ b o s, a' = some ⟨b, o, s⟩ → w.heap.size + 1 ≤ b) (hc : n ≤ c') :
    APost w r (.returned (.agg #[.slice a' n c', .int .i64 k])) ((w1.setCell ⟨w.heap.size, 0, none⟩ (.slice a' n c')).setCell ⟨w.heap.size, 1, none⟩ (.int .i64 k)) := by
  subst hn hk
  refine ⟨a', c', rfl, ?_, (fun b o s e => by have := hf b o s e; omega), belowS hb (Nat.le_refl _) _ _, hc⟩
  have hne : ∀ b o s, a' = some ⟨b, o, s⟩ → some b ≠ some w.heap.size := fun b o s e h => by have := hf b o s e; injection h with h; omega
  exact rd_grew (rd_grew hrd (grew_cell w1 w.heap.size 0 _) hne) (grew_cell _ w.heap.size 1 _) hne
/-- what holds on the way -/
structure As (w : World) (a b acc : List Pl) (k : Nat) (a' : Option Addr) (c' : Nat) (wr : World) : Prop where
  eq : acc = (b.take k).foldl put a
  rd : Rd wr a' (cs acc)
  fresh : ∀ g o s, a' = some ⟨g, o, s⟩ → w.heap.size + 1 ≤ g
  cap : acc.length ≤ c'
  out : wr.heap[w.heap.size]? = some (.cells #[.slice none 0 0, .int .i64 0] 30)
  below : Below w.heap.size w wr
theorem puts_take {b : List Pl} {k : Nat} {x : Pl} (hx : b[k]? = some x) (a : List Pl) : (b.take (k + 1)).foldl put a = put ((b.take k).foldl put a) x := by
  rw [List.take_add_one, hx, List.foldl_append]
  rfl
theorem ite3 {α : Type} {p q r : Prop} [Decidable p] [Decidable q] [Decidable r] {x y z u : α} (hp : ¬ p) (hq : ¬ q) (hr : ¬ r) : (if p then x else if q then y else if r then z else u) = u := by rw [if_neg hp, if_neg hq, if_neg hr]
set_option maxRecDepth 100000 in
set_option maxHeartbeats 4000000 in
theorem addS_any (a0 : Option Addr) (c0 : Nat) (l : List Pl) (a1 : Option Addr) (c1 : Nat) (m : List Pl) (w : World) (hl : l.length ≤ 1048576) (hs : Small l) (hr : Rd w a0 (cs l)) (hm : m.length ≤ 1048576) (hs1 : Small m) (hr1 : Rd w a1 (cs m)) :
    Calls Try.prog 12 #[.slice a0 l.length c0, .slice a1 m.length c1] w (APost w (addA l m)) := by
  have hb0 := blk_new w zeroA w.heap.size rfl
  have HB0 := mkHid (below_alloc1 w zeroA)
  unfold zeroA at hb0 HB0
  obtain ⟨z0, z1⟩ := cel2 hb0
  have uf := unfrozen hb0
  have hli : (l.length : Int) ≤ 1048576 := by omega
  have hmi : (m.length : Int) ≤ 1048576 := by omega
  by_cases h1 : 400 < l.length
  · have F : Hid (APost w (addA l m) _ _) := mkHid (apost_new (k := 2) (by unfold addA; rw [if_pos (.inl h1)]))
    have h1i : (400 : Int) < (l.length : Int) := by omega
    clear hr hr1 hb0 HB0 z0 z1 uf
    go_enter Try.func12, Try.ntmps12
    go_wp2
    refine bodyPost_ret (v := .agg #[.slice none 0 0, .int .i64 2]) ?_ rfl F.out
    simp [results, Try.results12, go_sem]
  have h1i : (l.length : Int) ≤ 400 := by omega
  by_cases h2 : 400 < m.length
  · have F : Hid (APost w (addA l m) _ _) := mkHid (apost_new (k := 2) (by unfold addA; rw [if_pos (.inr h2)]))
    have h2i : (400 : Int) < (m.length : Int) := by omega
    clear hr hr1 hb0 HB0 z0 z1 uf
    go_enter Try.func12, Try.ntmps12
    go_wp2
    refine bodyPost_ret (v := .agg #[.slice none 0 0, .int .i64 2]) ?_ rfl F.out
    simp [results, Try.results12, go_sem]
  have h2i : (m.length : Int) ≤ 400 := by omega
  have HR := mkHid (fun wx (hb : Below w.heap.size w wx) => rightS_any a0 c0 l wx hl hs (hr.below hb))
  have HR1 := mkHid (fun wx (hb : Below w.heap.size w wx) => rightS_any a1 c1 m wx hm hs1 (hr1.below hb))
  have hbk := mkHid hb0
  clear z0 z1 uf hb0
  cases hp : placesB l with
  | false =>
    rw [hp] at HR
    have HE := mkHid (show addA l m = ([], 1) by unfold addA; rw [if_neg (by omega), if_pos (.inl hp)])
    clear hr hr1 HR1
    go_enter Try.func12, Try.ntmps12
    go_wp2_with fail
    refine (HR.out _ HB0.out).mono ?_
    rintro e w1 ⟨rfl, hbw⟩
    have hb2 := blk_below hbk.out hbw
    obtain ⟨z0, z1⟩ := cel2 hb2
    have uf := unfrozen hb2
    have F : Hid (APost w (addA l m) _ _) := mkHid (apost_no (k := 1) (below_trans HB0.out hbw) HE.out)
    clear hbw hb2 HB0 HR HE hbk
    go_wp2
    refine bodyPost_ret (v := .agg #[.slice none 0 0, .int .i64 1]) ?_ rfl F.out
    simp [results, Try.results12, go_sem, z0, z1]
  | true =>
    rw [hp] at HR
    cases hq : placesB m with
    | false =>
      rw [hq] at HR1
      have HE := mkHid (show addA l m = ([], 1) by unfold addA; rw [if_neg (by omega), if_pos (.inr hq)])
      clear hr hr1
      go_enter Try.func12, Try.ntmps12
      go_wp2_with fail
      refine (HR.out _ HB0.out).mono ?_
      rintro e w1 ⟨rfl, hbw⟩
      have hb2 := mkHid (blk_below hbk.out hbw)
      have HB1 := mkHid (below_trans HB0.out hbw)
      clear hbw HB0 hbk
      go_wp2_with fail
      refine (HR1.out _ HB1.out).mono ?_
      rintro e w2 ⟨rfl, hbw⟩
      have hb3 := blk_below hb2.out hbw
      obtain ⟨z0, z1⟩ := cel2 hb3
      have uf := unfrozen hb3
      have F : Hid (APost w (addA l m) _ _) := mkHid (apost_no (k := 1) (below_trans HB1.out hbw) HE.out)
      clear hbw hb2 hb3 HB1 HR HR1 HE
      go_wp2
      refine bodyPost_ret (v := .agg #[.slice none 0 0, .int .i64 1]) ?_ rfl F.out
      simp [results, Try.results12, go_sem, z0, z1]
    | true =>
      rw [hq] at HR1
      have HA3 := mkHid (show ¬ 300 < (m.foldl put l).length → addA l m = (m.foldl put l, 0) from fun h => by unfold addA; rw [if_neg (by omega), if_neg (by rw [hp, hq]; simp), if_neg h])
      have HE3 := mkHid (show 300 < (m.foldl put l).length → addA l m = ([], 11) from fun h => by unfold addA; rw [if_neg (by omega), if_neg (by rw [hp, hq]; simp), if_pos h])
      have HC := mkHid (fun wx (hb : Below w.heap.size w wx) => copyS_any a0 c0 l wx hl (hr.below hb))
      have HRm := mkHid (fun wx (hb : Below w.heap.size w wx) => hr1.below hb)
      clear hr hr1 hp hq
      go_enter Try.func12, Try.ntmps12
      go_wp2_with fail
      refine (HR.out _ HB0.out).mono ?_
      rintro e w1 ⟨rfl, hbw⟩
      have hb2 := mkHid (blk_below hbk.out hbw)
      have HB1 := mkHid (below_trans HB0.out hbw)
      clear hbw HB0 hbk HR
      go_wp2_with fail
      refine (HR1.out _ HB1.out).mono ?_
      rintro e w2 ⟨rfl, hbw⟩
      have hb3 := mkHid (blk_below hb2.out hbw)
      have HB2 := mkHid (below_trans HB1.out hbw)
      clear hbw HB1 hb2 HR1
      go_wp2_with fail
      refine (HC.out _ HB2.out).mono ?_
      rintro e w3 ⟨a', c', rfl, hrd, hf, hbw, hc⟩
      have hsz2 : w.heap.size + 1 ≤ w2.heap.size := (Array.getElem?_eq_some_iff.1 hb3.out).1
      have S0 : Hid (As w l m l 0 a' c' w3) := mkHid ⟨by simp, hrd, fun g o s e => Nat.le_trans hsz2 (hf g o s e), hc, blk_below hb3.out hbw, below_trans HB2.out hbw⟩
      clear hrd hf hbw hc hsz2 HB2 hb3 HC
      go_wp2_with fail
      go_loopw [5, 6] (fun v i wr => ∃ (k : Nat) (acc : List Pl) (a' : Option Addr) (c' : Nat), k ≤ m.length ∧ i = .int .i64 k ∧ v = .slice a' acc.length c' ∧ Hid (As w l m acc k a' c' wr))
        (fun _ i _ => m.length - (intOf i).toNat)
      case atStart => exact ⟨0, l, a', c', Nat.zero_le _, rfl, rfl, S0⟩
      case round =>
        obtain ⟨k, acc, aa, ca, hk, rfl, rfl, S⟩ := hrel
        clear S0
        have hal : acc.length ≤ 800 := by
          have h := puts_le (m.take k) l
          rw [S.out.eq]
          have : (m.take k).length ≤ m.length := by simp; omega
          omega
        have hali : (acc.length : Int) ≤ 800 := by omega
        by_cases hlt : k < m.length
        · have hlti : (k : Int) < (m.length : Int) := by omega
          obtain ⟨⟨x0, x1, x2, x3, x4⟩, hx⟩ : ∃ y, m[k]? = some y := ⟨_, List.getElem?_eq_getElem hlt⟩
          obtain ⟨g1, o1, rfl, d0, d1, d2, d3, d4, l1⟩ := el (HRm.out _ S.out.below) hx
          simp only at d0 d1 d2 d3 d4
          have HP := mkHid (putS_any aa ca acc x0 x1 x2 x3 x4 wr (by omega) S.out.cap S.out.rd)
          have hx1 := mkHid hx
          clear hx
          go_wp2_with fail
          refine HP.out.mono ?_
          rintro e w4 ⟨a4, c4, rfl, hrd, hf, hbw, hc⟩
          have N1 : Hid (As w l m (put acc (x0, x1, x2, x3, x4)) (k + 1) a4 c4 w4) := mkHid ⟨by rw [puts_take hx1.out, ← S.out.eq], hrd, fun g o s e => by
            rcases hf with hf | hf
            · rw [hf] at e
              exact S.out.fresh g o s e
            · have h1 := hf g o s e
              have h2 := (Array.getElem?_eq_some_iff.1 S.out.out).1
              omega, hc, blk_below S.out.out hbw, below_trans S.out.below hbw⟩
          clear hrd hf hbw hc HP hx1 S
          go_wp2
          go_roundw
          case rel => exact ⟨k + 1, _, a4, c4, by omega, by go_num, rfl, N1⟩
          case measure => simp [intOf]; omega
        · obtain rfl : k = m.length := by omega
          have hacc := S.out.eq
          rw [List.take_of_length_le (Nat.le_refl _)] at hacc
          obtain ⟨z0, z1⟩ := cel2 S.out.out
          have uf := unfrozen S.out.out
          by_cases h3 : 300 < acc.length
          · have h3i : (300 : Int) < (acc.length : Int) := by omega
            have F : Hid (APost w (addA l m) _ _) := mkHid (apost_no (k := 11) S.out.below (HE3.out (by rw [← hacc]; exact h3)))
            clear S hacc HE3 HA3
            go_wp2
            refine bodyPost_ret (v := .agg #[.slice none 0 0, .int .i64 11]) ?_ rfl F.out
            simp [results, Try.results12, go_sem, z0, z1]
          · have h3i : (acc.length : Int) ≤ 300 := by omega
            have hE : addA l m = (acc, 0) := by rw [HA3.out (by rw [← hacc]; exact h3), hacc]
            have F : Hid (APost w (addA l m) _ _) := mkHid (apost_of (a' := aa) (n := acc.length) (c' := ca) (k := 0) S.out.below (by rw [hE]) (by rw [hE]) (by rw [hE]; exact S.out.rd) S.out.fresh S.out.cap)
            clear S hacc HE3 HA3 hE
            go_wp2
            refine bodyPost_ret (v := .agg #[.slice aa acc.length ca, .int .i64 0]) ?_ rfl F.out
            simp [results, Try.results12, go_sem, z0, z1]
end Go.Proofs.Ytppjbmmeacmoiaa.plc
