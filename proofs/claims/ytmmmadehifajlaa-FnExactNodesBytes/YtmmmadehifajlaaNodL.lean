/-
  What laws.szStringS, toStringS, szNode, szNodeS, toNode, toNodeS answer and leave. Conditions: at most 1,048,576 nodes of at most 1,048,576 keys each, which lie in memory.
-/
import Derived.Test.YtmmmadehifajlaaNodP
namespace Go.Proofs.Ytmmmadehifajlaa.nod
open Go.RowKit Go.Joins
open Go.Proofs.Ytmmmadehifajlaa.base Go.Proofs.Ytmmmadehifajlaa.blk Go.Proofs.Ytmmmadehifajlaa.aid
open Go.Proofs.Ytmmmadehifajlaa.row (Rd Own OwnV)
open Go.Proofs.Ytmmmadehifajlaa.strs (tx strV)
open Go.Proofs.Ytmmmadehifajlaa.mem (Mem Mine Off)
set_option linter.unusedVariables false
set_option linter.unusedSimpArgs false

/-- what is left, if it is enough -/
def Left (n : Int) (m : Int) (P : Prop) (z : Int) : Prop := z = -1 ∨ (0 ≤ z ∧ z + n ≤ m ∧ P)
/-- keys of at most so many bytes -/
def FitT (l : Tx) : Prop := ∀ t ∈ l, t.size ≤ 1048576
set_option maxRecDepth 100000 in
set_option maxHeartbeats 1000000 in
theorem szT_m (m : Int) (hm0 : 0 ≤ m) (hm1 : m ≤ 1048576) (a : Option Addr) (c : Nat) (l : Tx) (w : World) (hl : (l.length : Int) ≤ 9223372036854775807) (hs : ∀ t ∈ l, (t.size : Int) ≤ 9223372036854775807) (hr : Rd w a (tx l)) :
    Calls Try.prog 78 #[.slice a l.length c, .int .i64 m] w fun e w' => (∃ z, e = .returned (.int .i64 z) ∧ Left l.length m (FitT l) z) ∧ Below w.heap.size w w' := by
  by_cases h0 : m < (l.length : Int)
  · go_enter Try.func78, Try.ntmps78
    go_wp2
    go_ret
    exact ⟨⟨_, rfl, .inl rfl⟩, Below.refl _ _⟩
  · have h0' : (l.length : Int) ≤ m := by omega
    go_enter Try.func78, Try.ntmps78
    go_wp2_with fail
    go_loopw [1, 5] (fun mm i wr => ∃ (k : Nat) (z : Int), k ≤ l.length ∧ i = .int .i64 k ∧ mm = .int .i64 z ∧ 0 ≤ z ∧ z ≤ 1048576 ∧ Hid (z + l.length ≤ m ∧ FitT (l.take k)) ∧ Hid (Below w.heap.size w wr))
      (fun _ i _ => l.length - (intOf i).toNat)
    case atStart => exact ⟨0, m - l.length, Nat.zero_le _, rfl, rfl, by omega, by omega, mkHid ⟨by omega, by intro t ht; simp at ht⟩, mkHid (Below.refl _ _)⟩
    case round =>
      obtain ⟨k, z, hk, rfl, rfl, hz0, hz1, hE, hB⟩ := hrel
      by_cases hlt : k < l.length
      · have hlti : (k : Int) < (l.length : Int) := by omega
        obtain ⟨t, hx⟩ : ∃ y, l[k]? = some y := ⟨_, List.getElem?_eq_getElem hlt⟩
        obtain ⟨g1, o1, rfl, c0, l1⟩ := tx_el hr hx
        have e0 := (hB.out.cell (p := ⟨g1, o1 + k, none⟩) l1).trans c0
        have ht := hs _ (List.mem_of_getElem? hx)
        have htk : l.take (k + 1) = l.take k ++ [t] := by rw [List.take_add_one, hx]; rfl
        by_cases hzt : z < (t.size : Int)
        · clear hE c0 hx hr hs htk
          go_wp2
          go_ret
          exact ⟨⟨_, rfl, .inl rfl⟩, hB.out⟩
        · have hz2 : 0 ≤ z - (t.size : Int) := by omega
          have N1 : Hid (z - (t.size : Int) + l.length ≤ m ∧ FitT (l.take (k + 1))) := mkHid (by
            refine ⟨by have := hE.out.1; omega, ?_⟩
            rw [htk]
            intro u hu
            rcases List.mem_append.1 hu with hu | hu
            · exact hE.out.2 u hu
            · simp at hu
              subst hu
              omega)
          clear hE c0 hx hr hs htk
          go_wp2
          exact ⟨⟨k + 1, z - (t.size : Int), by omega, by go_num, rfl, hz2, by omega, N1, hB⟩, by simp [intOf]; omega⟩
      · obtain rfl : k = l.length := by omega
        have R : Hid (Left l.length m (FitT l) z) := mkHid (by
          have h1 := hE.out
          rw [List.take_of_length_le (Nat.le_refl _)] at h1
          exact .inr ⟨hz0, h1.1, h1.2⟩)
        clear hE hr hs
        go_wp2
        go_ret
        exact ⟨⟨_, rfl, R.out⟩, hB.out⟩
set_option maxRecDepth 100000 in
theorem szN_m (m : Int) (hm0 : 0 ≤ m) (hm1 : m ≤ 1048576) (x0 : ByteArray) (x1 : Bool) (x2 : Int) (a : Option Addr) (c : Nat) (l : Tx) (w : World) (h0 : (x0.size : Int) ≤ 9223372036854775807) (hl : (l.length : Int) ≤ 9223372036854775807) (hs : ∀ t ∈ l, (t.size : Int) ≤ 9223372036854775807) (hr : Rd w a (tx l)) :
    Calls Try.prog 51 #[.agg #[.string x0, .bool x1, .int .i64 x2, .slice a l.length c], .int .i64 m] w fun e w' => (∃ z, e = .returned (.int .i64 z) ∧ Left l.length m (x0.size ≤ 1048576 ∧ FitT l) z) ∧ Below w.heap.size w w' := by
  by_cases g0 : m < (x0.size : Int)
  · clear hr hs
    go_enter Try.func51, Try.ntmps51
    go_wp2
    go_ret
    exact ⟨⟨_, rfl, .inl rfl⟩, below_alloc1 _ _⟩
  have g1 : 0 ≤ m - (x0.size : Int) := by omega
  have HZ := mkHid (szT_m (m - (x0.size : Int)) g1 (by omega) a c l (w.alloc (.cells #[.string x0, .bool x1, .int .i64 x2, .slice a l.length c] 84)) hl hs (hr.alloc _))
  clear hr hs
  go_enter Try.func51, Try.ntmps51
  go_wp2_with fail
  refine HZ.out.mono ?_
  rintro e w1 ⟨⟨z, rfl, hL⟩, hb1⟩
  have B1 := mkHid (below_allocs (os := [_]) hb1)
  by_cases hz : z < 0
  · clear hb1 HZ hL
    go_wp2
    go_ret
    exact ⟨⟨_, rfl, .inl rfl⟩, B1.out⟩
  · have hz0 : 0 ≤ z := by omega
    have hL2 : Hid (Left l.length m (x0.size ≤ 1048576 ∧ FitT l) z) := mkHid (by
      rcases hL with h | ⟨h1, h2, h3⟩
      · exact absurd h (by omega)
      · exact .inr ⟨h1, by omega, by omega, h3⟩)
    clear hb1 HZ hL
    go_wp2
    go_ret
    exact ⟨⟨_, rfl, hL2.out⟩, B1.out⟩
def some_ : List Nd → Int
  | [] => 0
  | d :: r => (d.2.2.2.2.2.length : Int) + some_ r
theorem some_pos : ∀ l, 0 ≤ some_ l
  | [] => by simp [some_]
  | d :: r => by have := some_pos r; unfold some_; omega
theorem some_app : ∀ l r, some_ (l ++ r) = some_ l + some_ r
  | [], r => by simp [some_]
  | d :: l, r => by rw [List.cons_append, some_, some_, some_app l r]; omega
theorem some_le : ∀ (l : List Nd) (d : Nd), d ∈ l → (d.2.2.2.2.2.length : Int) ≤ some_ l
  | [], d, h => by simp at h
  | e :: r, d, h => by
    have hp := some_pos r
    unfold some_
    rcases List.mem_cons.1 h with rfl | h
    · omega
    · have := some_le r d h
      omega
def FitN (ds : List Nd) : Prop := ∀ d ∈ ds, d.1.size ≤ 1048576 ∧ FitT d.2.2.2.2.2
/-- what comes in -/
def Big (ds : List Nd) : Prop := ∀ d ∈ ds, (d.1.size : Int) ≤ 9223372036854775807 ∧ (d.2.2.2.2.2.length : Int) ≤ 9223372036854775807 ∧ ∀ t ∈ d.2.2.2.2.2, (t.size : Int) ≤ 9223372036854775807
set_option maxRecDepth 100000 in
set_option maxHeartbeats 1000000 in
theorem szNS_any (a : Option Addr) (c : Nat) (ds : List Nd) (w : World) (hl : (ds.length : Int) ≤ 9223372036854775807) (hs : Big ds) (hr : RdN w a ds) :
    Calls Try.prog 20 #[.slice a ds.length c, .int .i64 1048576] w fun e w' => (∃ z, e = .returned (.int .i64 z) ∧ Left (ds.length + some_ ds) 1048576 (FitN ds) z) ∧ Below w.heap.size w w' := by
  by_cases h0 : (1048576 : Int) < (ds.length : Int)
  · go_enter Try.func20, Try.ntmps20
    go_wp2
    go_ret
    exact ⟨⟨_, rfl, .inl rfl⟩, Below.refl _ _⟩
  · have h0' : (ds.length : Int) ≤ 1048576 := by omega
    go_enter Try.func20, Try.ntmps20
    go_wp2_with fail
    go_loopw [1, 5] (fun m i wr => ∃ (k : Nat) (z : Int), k ≤ ds.length ∧ i = .int .i64 k ∧ m = .int .i64 z ∧ 0 ≤ z ∧ z ≤ 1048576 ∧ Hid (z + ds.length + some_ (ds.take k) ≤ 1048576 ∧ FitN (ds.take k)) ∧ Hid (Below w.heap.size w wr))
      (fun _ i _ => ds.length - (intOf i).toNat)
    case atStart => exact ⟨0, 1048576 - ds.length, Nat.zero_le _, rfl, rfl, by omega, by omega, mkHid ⟨by simp [some_], by intro d hd; simp at hd⟩, mkHid (Below.refl _ _)⟩
    case round =>
      obtain ⟨k, z, hk, rfl, rfl, hz0, hz1, hE, hB⟩ := hrel
      by_cases hlt : k < ds.length
      · have hlti : (k : Int) < (ds.length : Int) := by omega
        obtain ⟨d, hx⟩ : ∃ y, ds[k]? = some y := ⟨_, List.getElem?_eq_getElem hlt⟩
        have hdm := List.mem_of_getElem? hx
        obtain ⟨d0, d1, d2, da, dc, dl⟩ := d
        obtain ⟨g1, o1, rfl, c0, c1, c2, c3, l1⟩ := el hr.top hx
        simp only at c0 c1 c2 c3
        have e0 := (hB.out.cell (p := ⟨g1, o1 + k * 4, none⟩) l1).trans c0
        have e1 := (hB.out.cell (p := ⟨g1, o1 + k * 4 + 1, none⟩) l1).trans c1
        have e2 := (hB.out.cell (p := ⟨g1, o1 + k * 4 + 2, none⟩) l1).trans c2
        have e3 := (hB.out.cell (p := ⟨g1, o1 + k * 4 + 3, none⟩) l1).trans c3
        have HZ := mkHid (szN_m z hz0 hz1 d0 d1 d2 da dc dl wr (hs _ hdm).1 (hs _ hdm).2.1 (hs _ hdm).2.2 ((hr.each _ hdm).below hB.out))
        have ht : ds.take (k + 1) = ds.take k ++ [(d0, d1, d2, da, dc, dl)] := by rw [List.take_add_one, hx]; rfl
        have HN : Hid (∀ z', Left dl.length z (d0.size ≤ 1048576 ∧ FitT dl) z' → 0 ≤ z' → z' ≤ z ∧ z' + ds.length + some_ (ds.take (k + 1)) ≤ 1048576 ∧ FitN (ds.take (k + 1))) := mkHid (fun z' hL h => by
          rcases hL with h1 | ⟨h1, h2, h3⟩
          · omega
          · rw [ht, some_app]
            have := hE.out.1
            have e : some_ [(d0, d1, d2, da, dc, dl)] = (dl.length : Int) := by simp [some_]
            refine ⟨by omega, by rw [e]; omega, ?_⟩
            intro d hd
            rcases List.mem_append.1 hd with hd | hd
            · exact hE.out.2 d hd
            · simp at hd
              subst hd
              exact h3)
        clear c0 c1 c2 c3 hx hr hs hdm ht hE
        go_wp2_with fail
        refine HZ.out.mono ?_
        rintro e w1 ⟨⟨z', rfl, hL⟩, hb1⟩
        have B1 := mkHid (hB.out.trans (hb1.mono hB.out.size))
        by_cases hz' : z' < 0
        · clear hb1 HZ hL HN e0 e1 e2 e3
          go_wp2
          go_ret
          exact ⟨⟨_, rfl, .inl rfl⟩, B1.out⟩
        · have hz2 : 0 ≤ z' := by omega
          have hq := HN.out z' hL hz2
          have hz3 : z' ≤ 1048576 := by omega
          have N1 := mkHid hq.2
          clear hb1 HZ hL HN e0 e1 e2 e3 hq
          go_wp2
          exact ⟨⟨k + 1, z', by omega, by go_num, rfl, hz2, hz3, N1, B1⟩, by simp [intOf]; omega⟩
      · obtain rfl : k = ds.length := by omega
        have R : Hid (Left (ds.length + some_ ds) 1048576 (FitN ds) z) := mkHid (by
          have h1 := hE.out
          rw [List.take_of_length_le (Nat.le_refl _)] at h1
          exact .inr ⟨hz0, by omega, h1.2⟩)
        clear hE hr hs
        go_wp2
        go_ret
        exact ⟨⟨_, rfl, R.out⟩, hB.out⟩
end Go.Proofs.Ytmmmadehifajlaa.nod
