/-
  What spec.PackScan and spec.PackRead answer and leave, where spec.l07At and spec.PackRight answer as told. Condition: at most 1,048,576 bytes.
-/
import Derived.Test.YtppjbmmeacmoiaaDoorAtP
import Derived.Test.YtppjbmmeacmoiaaDoorZEntA
namespace Go.Proofs.YtppjbmmeacmoiaaDoor.pack
open Go.RowKit Go.Joins
open Go.Proofs.YtppjbmmeacmoiaaDoor.base Go.Proofs.YtppjbmmeacmoiaaDoor.blk Go.Proofs.YtppjbmmeacmoiaaDoor.aid
open Go.Proofs.YtppjbmmeacmoiaaDoor.row (bl en Rd Own OwnV appSem app_fold app1)
open Go.Proofs.YtppjbmmeacmoiaaDoor.rdr (SPost appE  own_v own_ge row_below)
set_option linter.unusedVariables false
attribute [local go_sem ↓] app_fold

theorem at_no {w w' : World} {s : ByteArray} {a : Nat} {e : Ending} (h : recAt s a = none) (hp : APost w s a e w') : ANo w e w' := by
  unfold APost at hp
  rw [h] at hp
  exact hp
theorem at_yes {w w' : World} {s : ByteArray} {a : Nat} {e : Ending} {k : Int} {q n : Nat} (h : recAt s a = some (k, q, n)) (hp : APost w s a e w') : AYes w s a k q n e w' := by
  unfold APost at hp
  rw [h] at hp
  exact hp

set_option maxRecDepth 100000 in
set_option maxHeartbeats 2000000 in
theorem scan_in (A : IAt) (s : ByteArray) (w : World) (hs : s.size ≤ 20000) :
    Calls Tryd.prog 18 #[.string s] w (SPost w (scanT s)) := by
  have h1 : (s.size : Int) ≤ 20000 := by omega
  have ET : Hid (scanT s = scan s 0) := mkHid (by unfold scanT; rw [if_neg (by omega)])
  have HN := mkHid (fun wx (a : Nat) (ha : a ≤ s.size) (hR : recAt s a = none) => (A s a wx hs ha).mono (fun e w' h => at_no hR h))
  have HY := mkHid (fun wx (a : Nat) (ha : a ≤ s.size) (k : Int) (q n : Nat) (hR : recAt s a = some (k, q, n)) => (A s a wx hs ha).mono (fun e w' h => at_yes hR h))
  unfold AYes at HY
  unfold ANo at HN
  clear A
  go_enter Tryd.func18, Tryd.ntmps18
  go_wp2_with fail
  go_loopw [3, 4] (fun v i wr => ∃ (a : Nat) (acc : List (ByteArray × Int × Int × Int)) (va : Option Addr) (vc : Nat), a ≤ s.size ∧ i = .int .i64 a ∧ v = .slice va acc.length vc ∧ acc.length ≤ a ∧ Hid (acc ++ scan s a = scan s 0) ∧ Hid (wr.ownsRow w.heap.size 31 4 (.slice va acc.length vc) acc.length (en acc) ∧ Below w.heap.size w wr))
    (fun _ i _ => s.size - (intOf i).toNat)
  case atStart => exact ⟨0, [], _, 0, Nat.zero_le _, rfl, rfl, by simp, mkHid (by simp), mkHid ⟨World.ownsRow_made _ _ _ (Nat.le_refl _) (by decide) rfl, below_alloc1 _ _⟩⟩
  case round =>
    obtain ⟨a, acc, va, vc, ha, rfl, rfl, hacc, hsc, hrow⟩ := hrel
    by_cases hlt : a < s.size
    · have hlti : (a : Int) < (s.size : Int) := by omega
      cases hR : recAt s a with
      | none =>
        have N1 : Hid (acc ++ scan s (a + 1) = scan s 0) := mkHid (by rw [← scan_no hlt hR]; exact hsc.out)
        go_wp2_with fail
        refine (HN.out _ a ha hR).mono ?_
        rintro e w1 ⟨x0, k0, p0, n0, k1, t0, q0, rfl, hb1⟩
        have N2 : Hid (((w1.alloc (.cells #[.string x0, .int .i64 k0, .int .i64 p0, .int .i64 n0] 31)).alloc (.cells #[.int .i64 k1, .string t0] 53)).ownsRow w.heap.size 31 4 (.slice va acc.length vc) acc.length (en acc) ∧ Below w.heap.size w ((w1.alloc (.cells #[.string x0, .int .i64 k0, .int .i64 p0, .int .i64 n0] 31)).alloc (.cells #[.int .i64 k1, .string t0] 53))) :=
          mkHid (row_below hrow.out.1 hrow.out.2 (hb1.trans (((below_alloc1 w1 _).alloc (by simp) _).mono hb1.size)))
        clear hb1 hrow hsc HN HY hR
        go_wp2
        exact ⟨⟨a + 1, acc, va, vc, by omega, by go_num, rfl, by omega, N1, N2⟩, by simp [intOf]; omega⟩
      | some x =>
        obtain ⟨k, q, n⟩ := x
        have hq := rec_some hR
        have N1 : Hid ((acc ++ [(keyAt s a, k, (q : Int), (n : Int))]) ++ scan s (q + n) = scan s 0) := mkHid (by rw [← hsc.out, scan_yes hlt hR]; simp)
        have HYY := mkHid (fun wx => HY.out wx a ha k q n hR)
        generalize keyAt s a = ky at *
        generalize s.extract q (q + n) = tx at *
        clear HY HN hsc hR
        go_wp2_with fail
        refine (HYY.out _).mono ?_
        rintro e w1 ⟨rfl, hb1⟩
        have E1 := mkHid (And.intro (row_below hrow.out.1 hrow.out.2 (hb1.trans (((below_alloc1 w1 (.cells #[.string ky, .int .i64 k, .int .i64 (q : Int), .int .i64 (n : Int)] 31)).alloc (by simp) (.cells #[.int .i64 k, .string tx] 53)).mono hb1.size))) (blk_old (blk_new w1 (.cells #[.string ky, .int .i64 k, .int .i64 (q : Int), .int .i64 (n : Int)] 31) w1.heap.size rfl) (.cells #[.int .i64 k, .string tx] 53)))
        have hsz : ((w1.alloc (.cells #[.string ky, .int .i64 k, .int .i64 (q : Int), .int .i64 (n : Int)] 31)).alloc (.cells #[.int .i64 k, .string tx] 53)).heap.size = w1.heap.size + 1 + 1 := by simp
        obtain ⟨g, c, w2, hrun, hown2, hgr⟩ := appE ((w1.alloc (.cells #[.string ky, .int .i64 k, .int .i64 (q : Int), .int .i64 (n : Int)] 31)).alloc (.cells #[.int .i64 k, .string tx] 53)) w.heap.size (.slice va acc.length vc) acc.length acc ky k q n rfl E1.out.1.1 E1.out.1.2.size (by omega)
        have N2 : Hid (w2.ownsRow w.heap.size 31 4 (.slice (some ⟨g, 0, none⟩) (acc.length + 1) c) (acc.length + 1) (en (acc ++ [(ky, k, (q : Int), (n : Int))])) ∧ Below w.heap.size w w2) :=
          mkHid ⟨hown2, (E1.out.1.2.alloc E1.out.1.2.size (.cells #[.string ky, .int .i64 k, .int .i64 (q : Int), .int .i64 (n : Int)] 31)).grown hgr (by have := E1.out.1.2.size; simp at this ⊢; omega) (fun x hx => (E1.out.1.1.lt x hx).1)⟩
        obtain ⟨c0, c1, c2, c3⟩ := cel4 E1.out.2
        rw [hsz] at hrun
        clear hb1 hrow HYY hown2 hgr E1 hsz
        go_wp2
        exact ⟨⟨q + n, acc ++ [(ky, k, (q : Int), (n : Int))], some ⟨g, 0, none⟩, c, by omega, by go_num, by simp, by simp; omega, N1, by simpa using N2⟩, by simp [intOf]; omega⟩
    · have hlti : ¬ ((a : Int) < (s.size : Int)) := by omega
      have E : Hid (scanT s = acc) := mkHid (by rw [ET.out, ← hsc.out, scan_end (by omega)]; simp)
      clear hsc
      go_wp2
      go_ret
      rw [E.out]
      exact ⟨va, vc, rfl, own_v hrow.out.1, own_ge hrow.out.1, hrow.out.2⟩

set_option maxRecDepth 100000 in
theorem scan_spec (A : IAt) (s : ByteArray) (w : World) (hs : s.size ≤ 1048576) :
    Calls Tryd.prog 18 #[.string s] w (SPost w (scanT s)) := by
  by_cases h : 20000 < (s.size : Int)
  · have E : scanT s = [] := by unfold scanT; rw [if_pos (by omega)]
    rw [E]
    clear E
    go_enter Tryd.func18, Tryd.ntmps18
    go_wp2
    go_ret
    exact ⟨_, _, rfl, .inl rfl, fun b o s e => by simp at e; omega, below_alloc1 _ _⟩
  · exact scan_in A s w (by omega)
end Go.Proofs.YtppjbmmeacmoiaaDoor.pack
