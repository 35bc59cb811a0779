/-
  What laws.szStoredS, szDrive, szDriveS, szArray, toArray, eqDriveS and eqArray answer and leave. Conditions: at most 1,048,576 drives of at most 1,048,576 files each, which lie in memory.
-/
import Derived.Test.YtlcdbkelonbcfaaArT
namespace Go.Proofs.Ytlcdbkelonbcfaa.arr
open Go.RowKit Go.Joins
open Go.Proofs.Ytlcdbkelonbcfaa.base Go.Proofs.Ytlcdbkelonbcfaa.blk Go.Proofs.Ytlcdbkelonbcfaa.aid
open Go.Proofs.Ytlcdbkelonbcfaa.row (Rd Own OwnV)
open Go.Proofs.Ytlcdbkelonbcfaa.rwStored (cs szF szL tot tot_pos sz_any)
open Go.Proofs.Ytlcdbkelonbcfaa.mem (Mem Mine Off)
set_option linter.unusedVariables false
set_option linter.unusedSimpArgs false

set_option maxRecDepth 100000 in
theorem szS_m (m : Int) (hm0 : 0 ≤ m) (hm1 : m ≤ 1048576) (a : Option Addr) (c : Nat) (l : List (ByteArray × ByteArray × Int)) (w : World) (hl : (l.length : Int) ≤ 9223372036854775807) (hs : ∀ b ∈ l, (b.1.size : Int) ≤ 9223372036854775807 ∧ (b.2.1.size : Int) ≤ 9223372036854775807) (hr : Rd w a (cs l)) :
    Calls Try.prog 89 #[.slice a l.length c, .int .i64 m] w fun e w' => e = .returned (.int .i64 (szF l m)) ∧ Below w.heap.size w w' := by
  by_cases h0 : m < (l.length : Int)
  · have E : szF l m = -1 := by unfold szF; rw [if_pos h0]
    go_enter Try.func89, Try.ntmps89
    go_wp2
    go_ret
    exact ⟨aid.ret_eq (by rw [E]; rfl), Below.refl _ _⟩
  · have h0' : (l.length : Int) ≤ m := by omega
    have E0 : Hid (szF l m = szL l (m - l.length)) := mkHid (by unfold szF; rw [if_neg h0])
    go_enter Try.func89, Try.ntmps89
    go_wp2_with fail
    go_loopw [1, 5] (fun mm i wr => ∃ (k : Nat) (z : Int), k ≤ l.length ∧ i = .int .i64 k ∧ mm = .int .i64 z ∧ 0 ≤ z ∧ z ≤ 1048576 ∧ Hid (szL (l.drop k) z = szL l (m - l.length)) ∧ Hid (Below w.heap.size w wr))
      (fun _ i _ => l.length - (intOf i).toNat)
    case atStart => exact ⟨0, m - l.length, Nat.zero_le _, rfl, rfl, by omega, by omega, mkHid (by simp), mkHid (Below.refl _ _)⟩
    case round =>
      obtain ⟨k, z, hk, rfl, rfl, hz0, hz1, hE, hB⟩ := hrel
      by_cases hlt : k < l.length
      · have hlti : (k : Int) < (l.length : Int) := by omega
        obtain ⟨⟨x0, x1, x2⟩, hx⟩ : ∃ y, l[k]? = some y := ⟨_, List.getElem?_eq_getElem hlt⟩
        obtain ⟨g1, o1, rfl, c0, c1, c2, l1⟩ := rwStored.el hr hx
        have e0 := (hB.out.cell (p := ⟨g1, o1 + k * 3, none⟩) l1).trans c0
        have e1 := (hB.out.cell (p := ⟨g1, o1 + k * 3 + 1, none⟩) l1).trans c1
        have e2 := (hB.out.cell (p := ⟨g1, o1 + k * 3 + 2, none⟩) l1).trans c2
        have hbt := hs _ (List.mem_of_getElem? hx)
        simp only at hbt
        have hdr : l.drop k = (x0, x1, x2) :: l.drop (k + 1) := by rw [List.drop_eq_getElem_cons hlt, (List.getElem?_eq_some_iff.1 hx).2]
        have HZ := mkHid (fun wx => sz_any x0 x1 x2 z wx (by omega) (by omega) hz0 hz1)
        have htp := tot_pos (x0, x1, x2)
        by_cases hzt : z < tot (x0, x1, x2)
        · have EE : Hid (szF l m = -1) := mkHid (by rw [E0.out, ← hE.out, hdr, szL, if_pos hzt])
          rw [if_pos hzt] at HZ
          generalize tot (x0, x1, x2) = tt at *
          clear hE c0 c1 c2 hx hr hdr hs hbt
          go_wp2_with fail
          refine (HZ.out _).mono ?_
          rintro e w1 ⟨rfl, hb1⟩
          have B1 := mkHid (hB.out.trans (hb1.mono hB.out.size))
          clear hb1 HZ
          go_wp2
          go_ret
          exact ⟨aid.ret_eq (by rw [EE.out]; rfl), B1.out⟩
        · rw [if_neg hzt] at HZ
          have N1 : Hid (szL (l.drop (k + 1)) (z - tot (x0, x1, x2)) = szL l (m - l.length)) := mkHid (by rw [← hE.out, hdr, szL, if_neg hzt])
          have hz2 : 0 ≤ z - tot (x0, x1, x2) := by omega
          have hz3 : z - tot (x0, x1, x2) ≤ 1048576 := by omega
          generalize z - tot (x0, x1, x2) = z' at *
          clear hE c0 c1 c2 hx hr hdr hs hbt hzt htp
          go_wp2_with fail
          refine (HZ.out _).mono ?_
          rintro e w1 ⟨rfl, hb1⟩
          have B1 := mkHid (hB.out.trans (hb1.mono hB.out.size))
          clear hb1 HZ
          go_wp2
          exact ⟨⟨k + 1, z', by omega, by go_num, rfl, hz2, hz3, N1, B1⟩, by simp [intOf]; omega⟩
      · obtain rfl : k = l.length := by omega
        have EE : Hid (szF l m = z) := mkHid (by have := hE.out; rw [List.drop_of_length_le (Nat.le_refl _)] at this; rw [E0.out, ← this]; rfl)
        clear hE hr hs
        go_wp2
        go_ret
        exact ⟨aid.ret_eq (by rw [EE.out]; rfl), hB.out⟩

theorem szL_left : ∀ (l : List Fl) (m : Int), 0 ≤ m → (szL l m = -1 ∨ (0 ≤ szL l m ∧ szL l m ≤ m ∧ ∀ b ∈ l, b.1.size ≤ m ∧ b.2.1.size ≤ m))
  | [], m, h => .inr ⟨by simpa [rwStored.szL] using h, by simp [rwStored.szL], by simp⟩
  | b :: r, m, h => by
    unfold rwStored.szL
    split
    · exact .inl rfl
    · rename_i hb
      have ht := tot_pos b
      have hu : tot b = (b.1.size : Int) + (b.2.1.size : Int) := rfl
      rcases szL_left r (m - tot b) (by omega) with h1 | ⟨h1, h2, h3⟩
      · exact .inl h1
      · refine .inr ⟨h1, by omega, fun x hx => ?_⟩
        rcases List.mem_cons.1 hx with rfl | hx
        · omega
        · have := h3 x hx
          omega
theorem szF_left (l : List Fl) (m : Int) (h : 0 ≤ m) : szF l m = -1 ∨ (0 ≤ szF l m ∧ szF l m + l.length ≤ m ∧ ∀ b ∈ l, b.1.size ≤ m ∧ b.2.1.size ≤ m) := by
  unfold rwStored.szF
  split
  · exact .inl rfl
  · rename_i hb
    rcases szL_left l (m - l.length) (by omega) with h1 | ⟨h1, h2, h3⟩
    · exact .inl h1
    · exact .inr ⟨h1, by omega, fun b hb => by have := h3 b hb; omega⟩
/-- what is left, if it is enough -/
def Left (n : Int) (m : Int) (P : Prop) (z : Int) : Prop := z = -1 ∨ (0 ≤ z ∧ z + n ≤ m ∧ P)
/-- lists of at most so many bytes -/
def Fit (l : List Fl) : Prop := ∀ f ∈ l, f.1.size ≤ 1048576 ∧ f.2.1.size ≤ 1048576
set_option maxRecDepth 100000 in
theorem szD_m (m : Int) (hm0 : 0 ≤ m) (hm1 : m ≤ 1048576) (a : Option Addr) (c : Nat) (l : List Fl) (r : Int) (w : World) (hl : (l.length : Int) ≤ 9223372036854775807) (hs : ∀ b ∈ l, (b.1.size : Int) ≤ 9223372036854775807 ∧ (b.2.1.size : Int) ≤ 9223372036854775807) (hr : Rd w a (cs l)) :
    Calls Try.prog 60 #[.agg #[.slice a l.length c, .int .i64 r], .int .i64 m] w fun e w' => (∃ z, e = .returned (.int .i64 z) ∧ Left l.length m (Fit l) z) ∧ Below w.heap.size w w' := by
  have HZ := mkHid (szS_m m hm0 hm1 a c l (w.alloc (.cells #[.slice a l.length c, .int .i64 r] 87)) hl hs (hr.alloc _))
  have HN := mkHid (szF_left l m hm0)
  generalize szF l m = z at *
  clear hr hs
  by_cases hz : z < 0
  · have hL : Hid (Left l.length m (Fit l) (-1)) := mkHid (.inl rfl)
    go_enter Try.func60, Try.ntmps60
    go_wp2_with fail
    refine HZ.out.mono ?_
    rintro e w1 ⟨rfl, hb1⟩
    have B1 := mkHid (below_allocs (os := [_]) hb1)
    clear hb1 HZ HN
    go_wp2
    go_ret
    exact ⟨⟨_, rfl, hL.out⟩, B1.out⟩
  · have hz0 : 0 ≤ z := by omega
    have hL : Hid (Left l.length m (Fit l) z) := mkHid (by
      rcases HN.out with h | ⟨h1, h2, h3⟩
      · exact absurd h (by omega)
      · exact .inr ⟨h1, h2, fun f hf => by have := h3 f hf; omega⟩)
    go_enter Try.func60, Try.ntmps60
    go_wp2_with fail
    refine HZ.out.mono ?_
    rintro e w1 ⟨rfl, hb1⟩
    have B1 := mkHid (below_allocs (os := [_]) hb1)
    clear hb1 HZ HN
    go_wp2
    go_ret
    exact ⟨⟨_, rfl, hL.out⟩, B1.out⟩
/-- how many files all drives have -/
def many (ds : List Dv) : Int := ds.length + (ds.map fun d => (d.2.2.1.length : Int)).sum
def some_ : List Dv → Int
  | [] => 0
  | d :: r => (d.2.2.1.length : Int) + some_ r
theorem some_pos : ∀ l, 0 ≤ some_ l
  | [] => by simp [some_]
  | d :: r => by have := some_pos r; unfold some_; omega
theorem some_app : ∀ l r, some_ (l ++ r) = some_ l + some_ r
  | [], r => by simp [some_]
  | d :: l, r => by rw [List.cons_append, some_, some_, some_app l r]; omega
def FitA (ds : List Dv) : Prop := ∀ d ∈ ds, Fit d.2.2.1
/-- what comes in -/
def Big (ds : List Dv) : Prop := ∀ d ∈ ds, (d.2.2.1.length : Int) ≤ 9223372036854775807 ∧ ∀ b ∈ d.2.2.1, (b.1.size : Int) ≤ 9223372036854775807 ∧ (b.2.1.size : Int) ≤ 9223372036854775807
set_option maxRecDepth 100000 in
set_option maxHeartbeats 1000000 in
theorem szDS_any (a : Option Addr) (c : Nat) (ds : List Dv) (w : World) (hl : (ds.length : Int) ≤ 9223372036854775807) (hs : Big ds) (hr : RdA w a ds) :
    Calls Try.prog 32 #[.slice a ds.length c, .int .i64 1048576] w fun e w' => (∃ z, e = .returned (.int .i64 z) ∧ Left (ds.length + some_ ds) 1048576 (FitA ds) z) ∧ Below w.heap.size w w' := by
  by_cases h0 : (1048576 : Int) < (ds.length : Int)
  · go_enter Try.func32, Try.ntmps32
    go_wp2
    go_ret
    exact ⟨⟨_, rfl, .inl rfl⟩, Below.refl _ _⟩
  · have h0' : (ds.length : Int) ≤ 1048576 := by omega
    go_enter Try.func32, Try.ntmps32
    go_wp2_with fail
    go_loopw [1, 5] (fun m i wr => ∃ (k : Nat) (z : Int), k ≤ ds.length ∧ i = .int .i64 k ∧ m = .int .i64 z ∧ 0 ≤ z ∧ z ≤ 1048576 ∧ Hid (z + ds.length + some_ (ds.take k) ≤ 1048576 ∧ FitA (ds.take k)) ∧ Hid (Below w.heap.size w wr))
      (fun _ i _ => ds.length - (intOf i).toNat)
    case atStart => exact ⟨0, 1048576 - ds.length, Nat.zero_le _, rfl, rfl, by omega, by omega, mkHid ⟨by simp [some_], by intro d hd; simp at hd⟩, mkHid (Below.refl _ _)⟩
    case round =>
      obtain ⟨k, z, hk, rfl, rfl, hz0, hz1, hE, hB⟩ := hrel
      by_cases hlt : k < ds.length
      · have hlti : (k : Int) < (ds.length : Int) := by omega
        obtain ⟨d, hx⟩ : ∃ y, ds[k]? = some y := ⟨_, List.getElem?_eq_getElem hlt⟩
        have hdm := List.mem_of_getElem? hx
        obtain ⟨da, dc, dl, dr⟩ := d
        obtain ⟨g1, o1, rfl, c0, c1, l1⟩ := el hr.top hx
        simp only at c0 c1
        have e0 := (hB.out.cell (p := ⟨g1, o1 + k * 2, none⟩) l1).trans c0
        have e1 := (hB.out.cell (p := ⟨g1, o1 + k * 2 + 1, none⟩) l1).trans c1
        have HZ := mkHid (szD_m z hz0 hz1 da dc dl dr wr (hs _ hdm).1 (hs _ hdm).2 ((hr.each _ hdm).below hB.out))
        have ht : ds.take (k + 1) = ds.take k ++ [(da, dc, dl, dr)] := by rw [List.take_add_one, hx]; rfl
        have HN : Hid (∀ z', Left dl.length z (Fit dl) z' → 0 ≤ z' → z' ≤ z ∧ z' + ds.length + some_ (ds.take (k + 1)) ≤ 1048576 ∧ FitA (ds.take (k + 1))) := mkHid (fun z' hL h => by
          rcases hL with h1 | ⟨h1, h2, h3⟩
          · omega
          · rw [ht, some_app]
            have := hE.out.1
            have e : some_ [(da, dc, dl, dr)] = (dl.length : Int) := by simp [some_]
            refine ⟨by omega, by rw [e]; omega, ?_⟩
            intro d hd
            rcases List.mem_append.1 hd with hd | hd
            · exact hE.out.2 d hd
            · simp at hd
              subst hd
              exact h3)
        clear c0 c1 hx hr hs hdm ht hE
        go_wp2_with fail
        refine HZ.out.mono ?_
        rintro e w1 ⟨⟨z', rfl, hL⟩, hb1⟩
        have B1 := mkHid (hB.out.trans (hb1.mono hB.out.size))
        by_cases hz' : z' < 0
        · clear hb1 HZ hL HN e0 e1
          go_wp2
          go_ret
          exact ⟨⟨_, rfl, .inl rfl⟩, B1.out⟩
        · have hz2 : 0 ≤ z' := by omega
          have hq := HN.out z' hL hz2
          have hz3 : z' ≤ 1048576 := by omega
          have N1 := mkHid hq.2
          clear hb1 HZ hL HN e0 e1 hq
          go_wp2
          exact ⟨⟨k + 1, z', by omega, by go_num, rfl, hz2, hz3, N1, B1⟩, by simp [intOf]; omega⟩
      · obtain rfl : k = ds.length := by omega
        have R : Hid (Left (ds.length + some_ ds) 1048576 (FitA ds) z) := mkHid (by
          have h1 := hE.out
          rw [List.take_of_length_le (Nat.le_refl _)] at h1
          exact .inr ⟨hz0, by omega, h1.2⟩)
        clear hE hr hs
        go_wp2
        go_ret
        exact ⟨⟨_, rfl, R.out⟩, hB.out⟩
set_option maxRecDepth 100000 in
theorem szA_any (k m : Int) (a : Option Addr) (c : Nat) (ds : List Dv) (w : World) (hl : (ds.length : Int) ≤ 9223372036854775807) (hs : Big ds) (hr : RdA w a ds) :
    Calls Try.prog 8 #[.agg #[.int .i64 k, .int .i64 m, .slice a ds.length c], .int .i64 1048576] w fun e w' => (∃ z, e = .returned (.int .i64 z) ∧ Left (ds.length + some_ ds) 1048576 (FitA ds) z) ∧ Below w.heap.size w w' := by
  have HZ := mkHid (szDS_any a c ds (w.alloc (.cells #[.int .i64 k, .int .i64 m, .slice a ds.length c] 24)) hl hs (hr.alloc _))
  clear hr hs
  go_enter Try.func8, Try.ntmps8
  go_wp2_with fail
  refine HZ.out.mono ?_
  rintro e w1 ⟨⟨z, rfl, hL⟩, hb1⟩
  have B1 := mkHid (below_allocs (os := [_]) hb1)
  have HL := mkHid hL
  clear hb1 HZ hL
  by_cases hz : z < 0
  · go_wp2
    go_ret
    exact ⟨⟨_, rfl, .inl rfl⟩, B1.out⟩
  · have hz0 : 0 ≤ z := by omega
    go_wp2
    go_ret
    exact ⟨⟨_, rfl, HL.out⟩, B1.out⟩
/-- what toArray answers -/
def APost (w : World) (k m : Int) (ds : List Dv) (e : Ending) (w' : World) : Prop :=
  ∃ G ds', e = .returned (.agg #[.int .i64 k, .int .i64 m, .slice (some ⟨G, 0, none⟩) ds.length ds.length]) ∧ ds'.map val = ds.map val ∧ Mem w [] [] (⟨92, some ⟨G, 0, none⟩, dcs ds'⟩ :: mines ds'.reverse) w'
theorem mem_from {W W0 wx : World} {os : List Mine} (h : Mem W0 [] [] os wx) (hb : Below W.heap.size W W0) : Mem W [] [] os wx :=
  ⟨hb.trans (h.below.mono hb.size), by simp, by simp, h.o, fun p hp hx g o s e => ⟨Nat.le_trans hb.size (h.new p hp hx g o s e).1, by simp, by simp⟩, h.apart⟩
theorem mem_cell {W wx : World} {os : List Mine} {z i : Nat} (h : Mem W [] [] os wx) (hz : W.heap.size ≤ z) (hn : ∀ p ∈ os, p.xs ≠ [] → ∀ g o s, p.a = some ⟨g, o, s⟩ → g ≠ z) (v : Value) : Mem W [] [] os (wx.setCell ⟨z, i, none⟩ v) :=
  ⟨h.below.setCell (p := ⟨z, i, none⟩) hz v, by simp, by simp, fun p hp => mem.own_off (h.o p hp) (grew_cell wx z i v) (fun b e => by
      cases e
      by_cases hx : p.xs = []
      · exact .inl hx
      · exact .inr (fun o s e2 => hn p hp hx _ o s e2 rfl)), h.new, h.apart⟩
set_option maxRecDepth 100000 in
set_option maxHeartbeats 1000000 in
theorem toA_any (k m : Int) (a : Option Addr) (c : Nat) (ds : List Dv) (w : World) (hs : ds.length ≤ 1048576) (hs2 : ∀ d ∈ ds, d.2.2.1.length ≤ 1048576) (hr : RdA w a ds) :
    Calls Try.prog 10 #[.agg #[.int .i64 k, .int .i64 m, .slice a ds.length c]] w (APost w k m ds) := by
  have HT := mkHid (fun wx (hx : RdA wx a ds) => toS_any a c ds wx hs hs2 hx)
  have HR := mkHid ((((hr.alloc (.cells #[.int .i64 k, .int .i64 m, .slice a ds.length c] 24)).alloc (.cells #[.int .i64 0, .int .i64 0, .slice none 0 0] 30)).alloc (.cells #[.int .i64 k, .int .i64 m, .slice none 0 0] 30)))
  have hz : (((w.alloc (.cells #[.int .i64 k, .int .i64 m, .slice a ds.length c] 24)).alloc (.cells #[.int .i64 0, .int .i64 0, .slice none 0 0] 30)).alloc (.cells #[.int .i64 k, .int .i64 m, .slice none 0 0] 30)).heap.size = w.heap.size + 3 := by simp
  have HB := mkHid (rwStored.below3 w (.cells #[.int .i64 k, .int .i64 m, .slice a ds.length c] 24) (.cells #[.int .i64 0, .int .i64 0, .slice none 0 0] 30) (.cells #[.int .i64 k, .int .i64 m, .slice none 0 0] 30))
  have K1 := mkHid (blk_old (blk_new (w.alloc (.cells #[.int .i64 k, .int .i64 m, .slice a ds.length c] 24)) (.cells #[.int .i64 0, .int .i64 0, .slice none 0 0] 30) (w.heap.size + 1) (by simp)) (.cells #[.int .i64 k, .int .i64 m, .slice none 0 0] 30))
  have K2 := mkHid (blk_new ((w.alloc (.cells #[.int .i64 k, .int .i64 m, .slice a ds.length c] 24)).alloc (.cells #[.int .i64 0, .int .i64 0, .slice none 0 0] 30)) (.cells #[.int .i64 k, .int .i64 m, .slice none 0 0] 30) (w.heap.size + 2) (by simp))
  clear hr hs2
  go_enter Try.func10, Try.ntmps10
  go_wp2_with fail
  refine (HT.out _ HR.out).mono ?_
  rintro e w1 ⟨ds', rfl, hv, hM⟩
  rw [hz] at hM ⊢
  have HN : Hid (∀ p ∈ (⟨92, some ⟨w.heap.size + 3, 0, none⟩, dcs ds'⟩ :: mines ds'.reverse : List Mine), p.xs ≠ [] → ∀ g o s, p.a = some ⟨g, o, s⟩ → w.heap.size + 3 ≤ g) := mkHid (fun p hp hx g o s e => by have := (hM.new p hp hx g o s e).1; rw [hz] at this; exact this)
  have M1 := mkHid (mem_from hM HB.out)
  have b1 := blk_below K1.out hM.below
  have b2 := blk_below K2.out hM.below
  obtain ⟨c0, c1, c2⟩ := cel3 b1
  obtain ⟨d0, d1, d2⟩ := cel3 b2
  have f1 := unfrozen b1
  have f2 := unfrozen b2
  have M2 : Hid (∀ v0 v1 v2 v3, Mem w [] [] (⟨92, some ⟨w.heap.size + 3, 0, none⟩, dcs ds'⟩ :: mines ds'.reverse) ((((w1.setCell ⟨w.heap.size + 2, 2, none⟩ v0).setCell ⟨w.heap.size + 1, 0, none⟩ v1).setCell ⟨w.heap.size + 1, 1, none⟩ v2).setCell ⟨w.heap.size + 1, 2, none⟩ v3)) := mkHid (fun v0 v1 v2 v3 =>
    mem_cell (mem_cell (mem_cell (mem_cell M1.out (by omega) (fun p hp hx g o s e => by have := HN.out p hp hx g o s e; omega) v0) (by omega) (fun p hp hx g o s e => by have := HN.out p hp hx g o s e; omega) v1) (by omega) (fun p hp hx g o s e => by have := HN.out p hp hx g o s e; omega) v2) (by omega) (fun p hp hx g o s e => by have := HN.out p hp hx g o s e; omega) v3)
  have HV := mkHid hv
  clear hM hv M1 HN K1 K2 b1 b2 HT HR HB hz
  go_wp2
  refine bodyPost_ret (v := .agg #[.int .i64 k, .int .i64 m, .slice (some ⟨w.heap.size + 3, 0, none⟩) ds.length ds.length]) ?_ rfl ?_
  rotate_left
  · exact ⟨_, ds', rfl, HV.out, M2.out _ _ _ _⟩
  · simp [results, Try.results10, go_sem, c0, c1, c2]
end Go.Proofs.Ytlcdbkelonbcfaa.arr
