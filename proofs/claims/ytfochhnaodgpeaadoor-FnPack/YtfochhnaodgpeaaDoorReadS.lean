/-
  What spec.PackRead answers and leaves, where spec.l07At answers as told. Condition: at most 1,048,576 bytes.
-/
import Derived.Test.YtfochhnaodgpeaaDoorScanS
import Derived.Test.YtfochhnaodgpeaaDoorPackR
import Derived.Test.YtfochhnaodgpeaaDoorReadBk
namespace Go.Proofs.YtfochhnaodgpeaaDoor.pack
open Go.RowKit Go.Joins
open Go.Proofs.YtfochhnaodgpeaaDoor.base Go.Proofs.YtfochhnaodgpeaaDoor.blk Go.Proofs.YtfochhnaodgpeaaDoor.aid
open Go.Proofs.YtfochhnaodgpeaaDoor.row (bl en Rd Own OwnV appSem app_fold app1)
open Go.Proofs.YtfochhnaodgpeaaDoor.rdr (OPost appB own_v own_ge row_below)
set_option linter.unusedVariables false
attribute [local go_sem ↓] app_fold

/-- while the specification reads -/
structure Rs (w : World) (acc : List (Int × ByteArray)) (v : Value) (W : World) : Prop where
  below : Below w.heap.size w W
  out : W.heap[w.heap.size]? = some (.cells #[.slice none 0 0, .int .i64 0, .int .i64 0] 28)
  row : W.ownsRow (w.heap.size + 1) 37 2 v acc.length (bl acc)
theorem Rs.next {w W W' : World} {acc : List (Int × ByteArray)} {v : Value} (h : Rs w acc v W) (hb : Below W.heap.size W W') : Rs w acc v W' :=
  ⟨h.below.trans (hb.mono h.below.size), blk_below h.out hb, h.row.kept (row := none) ⟨hb.os, hb.tape, hb.output, hb.size, fun k hk _ => hb.block k hk⟩ (by
    by_cases hne : v.ownBlock = none
    · exact .inl hne
    · exact .inr hne)⟩
theorem Rs.app {w W : World} {acc : List (Int × ByteArray)} {v : Value} (h : Rs w acc v W) (k : Int) (t : ByteArray) (hl : acc.length ≤ 1048576) :
    ∃ g c w2, (appSem #[23, 23] 23 #[v, .slice (some ⟨W.heap.size, 0, none⟩) 1 1]).run Tryd.prog (W.alloc (.cells #[.int .i64 k, .string t] 37)) = .ok (.slice (some ⟨g, 0, none⟩) (acc.length + 1) c) w2 ∧ Rs w (acc ++ [(k, t)]) (.slice (some ⟨g, 0, none⟩) (acc ++ [(k, t)]).length c) w2 := by
  have hs : w.heap.size + 1 ≤ W.heap.size := (Array.getElem?_eq_some_iff.1 h.out).1
  obtain ⟨g, c, w2, h1, h2, h3⟩ := appB W (w.heap.size + 1) v acc.length acc k t rfl h.row hs hl
  refine ⟨g, c, w2, h1, ?_, ?_, by simpa using h2⟩
  · exact ((h.below.alloc h.below.size _).grown h3 (by simp; omega) (fun x hx => Nat.le_of_succ_le (h.row.lt x hx).1))
  · refine (h3.block w.heap.size (by simp; omega) (fun e => ?_)).trans (blk_old h.out _)
    have := (h.row.lt w.heap.size e.symm).1
    omega

set_option maxRecDepth 100000 in
set_option maxHeartbeats 2000000 in
theorem read_in (A : IAt) (s : ByteArray) (w : World) (hs : s.size ≤ 20000) :
    Calls Tryd.prog 17 #[.string s] w (OPost w (readT s)) := by
  have h1 : (s.size : Int) ≤ 20000 := by omega
  have ET : Hid ((∀ a, reads s 0 = .error a → readT s = ([], (a : Int), 3)) ∧ (∀ l, reads s 0 = .ok l → packR l = true → readT s = (l, 0, 0)) ∧ (∀ l, reads s 0 = .ok l → packR l = false → readT s = ([], 0, 1))) := mkHid ⟨fun a hr => by unfold readT; rw [if_neg (by omega), hr], fun l hr hp => by unfold readT; rw [if_neg (by omega), hr]; simp only; rw [if_pos hp], fun l hr hp => by unfold readT; rw [if_neg (by omega), hr]; simp only; rw [if_neg (by rw [hp]; simp)]⟩
  have HLen := mkHid (fun l (h : reads s 0 = .ok l) => reads_len h)
  have HN := mkHid (fun wx (a : Nat) (ha : a ≤ s.size) (hR : recAt s a = none) => (A s a wx hs ha).mono (fun e w' h => at_no hR h))
  have HY := mkHid (fun wx (a : Nat) (ha : a ≤ s.size) (k : Int) (q n : Nat) (hR : recAt s a = some (k, q, n)) => (A s a wx hs ha).mono (fun e w' h => at_yes hR h))
  unfold AYes at HY
  unfold ANo at HN
  clear A
  go_enter Tryd.func17, Tryd.ntmps17
  go_wp2_with fail
  go_loopw [3, 4] (fun v i wr => ∃ (a : Nat) (acc : List (Int × ByteArray)) (va : Option Addr) (vc : Nat), a ≤ s.size ∧ i = .int .i64 a ∧ v = .slice va acc.length vc ∧ acc.length ≤ a ∧ Hid (pack.Read s acc a) ∧ Hid (Rs w acc (.slice va acc.length vc) wr))
    (fun _ i _ => s.size - (intOf i).toNat)
  case atStart =>
    exact ⟨0, [], _, 0, Nat.zero_le _, rfl, rfl, by simp, mkHid (pack.Read.start s), mkHid ⟨(below_alloc1 w _).alloc (by simp) _, blk_old (blk_new w _ _ rfl) _, by
      have h := World.ownsRow_made (base := w.heap.size + 1) (size := 2) (e := 37) (w.alloc (.cells #[.slice none 0 0, .int .i64 0, .int .i64 0] 28)) #[] 0 (by simp) (by decide) rfl
      simpa [row.bl_nil] using h⟩⟩
  case round =>
    obtain ⟨a, acc, va, vc, ha, rfl, rfl, hacc, hrd, hR⟩ := hrel
    by_cases hlt : a < s.size
    · have hlti : (a : Int) < (s.size : Int) := by omega
      cases hr : recAt s a with
      | none =>
        have E : Hid (readT s = ([], (a : Int), 3)) := mkHid (ET.out.1 _ (hrd.out.no hlt hr))
        go_wp2_with fail
        refine (HN.out _ a ha hr).mono ?_
        rintro e w1 ⟨x0, k0, p0, n0, k1, t0, q0, rfl, hb1⟩
        have R1 := mkHid (hR.out.next (hb1.trans (((below_alloc1 w1 (.cells #[.string x0, .int .i64 k0, .int .i64 p0, .int .i64 n0] 57)).alloc (by simp) (.cells #[.int .i64 k1, .string t0] 37)).mono hb1.size)))
        obtain ⟨q0', q1', q2'⟩ := cel3 R1.out.out
        have qf := unfrozen R1.out.out
        clear hb1 hR hrd HN HY hr
        have hB := mkHid (below_set3 (g := w.heap.size) R1.out.below (Nat.le_refl _) R1.out.below.size (.slice none 0 0) (.int .i64 (a : Int)) (.int .i64 3))
        go_wp2
        rw [E.out]
        exact bodyPost_ret (v := .agg #[.slice none 0 0, .int .i64 (a : Int), .int .i64 3]) (by simp [results, Tryd.results17, go_sem, q0', q1', q2']) rfl ⟨none, 0, rfl, .inl rfl, fun b o s e => by simp at e, by exact hB.out⟩
      | some x =>
        obtain ⟨k, q, n⟩ := x
        have hq := rec_some hr
        have N1 := mkHid (hrd.out.next hlt hr)
        have HYY := mkHid (fun wx => HY.out wx a ha k q n hr)
        generalize keyAt s a = ky at *
        generalize s.extract q (q + n) = tx at *
        clear HY HN hrd hr
        go_wp2_with fail
        refine (HYY.out _).mono ?_
        rintro e w1 ⟨rfl, hb1⟩
        have R1 := mkHid (hR.out.next (hb1.trans (((below_alloc1 w1 (.cells #[.string ky, .int .i64 k, .int .i64 (q : Int), .int .i64 (n : Int)] 57)).alloc (by simp) (.cells #[.int .i64 k, .string tx] 37)).mono hb1.size)))
        have X1 := blk_new (w1.alloc (.cells #[.string ky, .int .i64 k, .int .i64 (q : Int), .int .i64 (n : Int)] 57)) (.cells #[.int .i64 k, .string tx] 37) (w1.heap.size + 1) (by simp)
        have hsz : ((w1.alloc (.cells #[.string ky, .int .i64 k, .int .i64 (q : Int), .int .i64 (n : Int)] 57)).alloc (.cells #[.int .i64 k, .string tx] 37)).heap.size = w1.heap.size + 1 + 1 := by simp
        obtain ⟨g, c, w2, hrun, R2⟩ := R1.out.app k tx (by omega)
        have R2' := mkHid R2
        obtain ⟨c0, c1⟩ := cel2 X1
        rw [hsz] at hrun
        clear hb1 hR HYY R1 R2 X1 hsz
        go_wp2
        exact ⟨⟨q + n, acc ++ [(k, tx)], some ⟨g, 0, none⟩, c, by omega, by go_num, by simp, by simp; omega, N1, R2'⟩, by simp [intOf]; omega⟩
    · have hlti : ¬ ((a : Int) < (s.size : Int)) := by omega
      have hE := hrd.out.fin (by omega)
      have hlen := HLen.out _ hE
      have EN := mkHid (ET.out.2.2 _ hE)
      have EY := mkHid (ET.out.2.1 _ hE)
      have HP := mkHid (fun wx (hx : Rd wx va (bl acc)) => right_spec_pack va vc acc wx (by omega) hx)
      clear hrd HN HY ET HLen hE
      cases hp : packR acc
      · rw [hp] at HP
        have E := mkHid (EN.out hp)
        clear EN EY
        go_wp2_with fail
        refine (HP.out _ (own_v hR.out.row).rd).mono ?_
        rintro e w1 ⟨rfl, hb1⟩
        have R1 := mkHid (hR.out.next hb1)
        obtain ⟨q0, q1, q2⟩ := cel3 R1.out.out
        have qf := unfrozen R1.out.out
        have hB := mkHid (below_set3 (g := w.heap.size) R1.out.below (Nat.le_refl _) R1.out.below.size (.slice none 0 0) (.int .i64 0) (.int .i64 1))
        clear hb1 hR HP
        go_wp2
        rw [E.out]
        exact bodyPost_ret (v := .agg #[.slice none 0 0, .int .i64 0, .int .i64 1]) (by simp [results, Tryd.results17, go_sem, q0, q1, q2]) rfl ⟨none, 0, rfl, .inl rfl, fun b o s e => by simp at e, hB.out⟩
      · rw [hp] at HP
        have E := mkHid (EY.out hp)
        clear EN EY
        go_wp2_with fail
        refine (HP.out _ (own_v hR.out.row).rd).mono ?_
        rintro e w1 ⟨rfl, hb1⟩
        have R1 := mkHid (hR.out.next hb1)
        obtain ⟨q0, q1, q2⟩ := cel3 R1.out.out
        have qf := unfrozen R1.out.out
        have hB := mkHid (And.intro (below_set3 (g := w.heap.size) R1.out.below (Nat.le_refl _) R1.out.below.size (.slice va acc.length vc) (.int .i64 0) (.int .i64 0)) (rdr.ownV_set3 (g := w.heap.size) (own_v R1.out.row) (fun b o s e => by have := own_ge R1.out.row b o s e; omega) (.slice va acc.length vc) (.int .i64 0) (.int .i64 0)))
        have hge := mkHid (own_ge R1.out.row)
        clear hb1 hR HP
        go_wp2
        rw [E.out]
        exact bodyPost_ret (v := .agg #[.slice va acc.length vc, .int .i64 0, .int .i64 0]) (by simp [results, Tryd.results17, go_sem, q0, q1, q2]) rfl ⟨va, vc, rfl, hB.out.2, fun b o s e => Nat.le_of_succ_le (hge.out b o s e), hB.out.1⟩

set_option maxRecDepth 100000 in
theorem read_spec (A : IAt) (s : ByteArray) (w : World) (hs : s.size ≤ 1048576) :
    Calls Tryd.prog 17 #[.string s] w (OPost w (readT s)) := by
  by_cases h : 20000 < (s.size : Int)
  · have E : readT s = ([], 0, 2) := by unfold readT; rw [if_pos (by omega)]
    rw [E]
    clear E
    go_enter Tryd.func17, Tryd.ntmps17
    go_wp2
    exact bodyPost_ret (v := .agg #[.slice none 0 0, .int .i64 0, .int .i64 2]) (by simp [results, Tryd.results17, go_sem]) rfl ⟨none, 0, rfl, .inl rfl, fun b o s e => by simp at e, below_alloc1 _ _⟩
  · exact read_in A s w (by omega)
end Go.Proofs.YtfochhnaodgpeaaDoor.pack
