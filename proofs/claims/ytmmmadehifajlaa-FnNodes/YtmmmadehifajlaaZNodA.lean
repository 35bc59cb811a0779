/-
  What laws.szStringS, toStringS, szNode, szNodeS, toNode, toNodeS answer and leave. Conditions: at most 1,048,576 nodes of at most 1,048,576 keys each, which lie in memory.
  What laws.toStringS, toNode, toNodeS, eqNode and eqNodeS answer and leave. Conditions: at most 1,048,576 nodes of at most 1,048,576 keys each, which lie in memory.
  What stands in memory while nodes are read: rows of keys of our own, the row of nodes, a variable that is written. No condition.
-/
import Derived.Test.YtmmmadehifajlaaNodP
namespace Go.Proofs.Ytmmmadehifajlaa.nod
open Go.RowKit Go.Joins
open Go.Proofs.Ytmmmadehifajlaa.base Go.Proofs.Ytmmmadehifajlaa.blk Go.Proofs.Ytmmmadehifajlaa.aid
open Go.Proofs.Ytmmmadehifajlaa.row (Rd Own OwnV)
open Go.Proofs.Ytmmmadehifajlaa.strs (tx strV)
open Go.Proofs.Ytmmmadehifajlaa.mem (Mem Mine Off)
set_option linter.unusedVariables false
set_option linter.unusedSimpArgs false

/-- what is left, if it is enough -/
def Left (n : Int) (m : Int) (P : Prop) (z : Int) : Prop := z = -1 ∨ (0 ≤ z ∧ z + n ≤ m ∧ P)
/-- keys of at most so many bytes -/
def FitT (l : Tx) : Prop := ∀ t ∈ l, t.size ≤ 1048576
set_option maxRecDepth 100000 in
set_option maxHeartbeats 1000000 in
theorem szT_m (m : Int) (hm0 : 0 ≤ m) (hm1 : m ≤ 1048576) (a : Option Addr) (c : Nat) (l : Tx) (w : World) (hl : (l.length : Int) ≤ 9223372036854775807) (hs : ∀ t ∈ l, (t.size : Int) ≤ 9223372036854775807) (hr : Rd w a (tx l)) :
    Calls Try.prog 78 #[.slice a l.length c, .int .i64 m] w fun e w' => (∃ z, e = .returned (.int .i64 z) ∧ Left l.length m (FitT l) z) ∧ Below w.heap.size w w' := by
  by_cases h0 : m < (l.length : Int)
  · go_enter Try.func78, Try.ntmps78
    go_wp2
    go_ret
    exact ⟨⟨_, rfl, .inl rfl⟩, Below.refl _ _⟩
  · have h0' : (l.length : Int) ≤ m := by omega
    go_enter Try.func78, Try.ntmps78
    go_wp2_with fail
    go_loopw [1, 5] (fun mm i wr => ∃ (k : Nat) (z : Int), k ≤ l.length ∧ i = .int .i64 k ∧ mm = .int .i64 z ∧ 0 ≤ z ∧ z ≤ 1048576 ∧ Hid (z + l.length ≤ m ∧ FitT (l.take k)) ∧ Hid (Below w.heap.size w wr))
      (fun _ i _ => l.length - (intOf i).toNat)
    case atStart => exact ⟨0, m - l.length, Nat.zero_le _, rfl, rfl, by omega, by omega, mkHid ⟨by omega, by intro t ht; simp at ht⟩, mkHid (Below.refl _ _)⟩
    case round =>
      obtain ⟨k, z, hk, rfl, rfl, hz0, hz1, hE, hB⟩ := hrel
      by_cases hlt : k < l.length
      · have hlti : (k : Int) < (l.length : Int) := by omega
        obtain ⟨t, hx⟩ : ∃ y, l[k]? = some y := ⟨_, List.getElem?_eq_getElem hlt⟩
        obtain ⟨g1, o1, rfl, c0, l1⟩ := tx_el hr hx
        have e0 := (hB.out.cell (p := ⟨g1, o1 + k, none⟩) l1).trans c0
        have ht := hs _ (List.mem_of_getElem? hx)
        have htk : l.take (k + 1) = l.take k ++ [t] := by rw [List.take_add_one, hx]; rfl
        by_cases hzt : z < (t.size : Int)
        · clear hE c0 hx hr hs htk
          go_wp2
          go_ret
          exact ⟨⟨_, rfl, .inl rfl⟩, hB.out⟩
        · have hz2 : 0 ≤ z - (t.size : Int) := by omega
          have N1 : Hid (z - (t.size : Int) + l.length ≤ m ∧ FitT (l.take (k + 1))) := mkHid (by
            refine ⟨by have := hE.out.1; omega, ?_⟩
            rw [htk]
            intro u hu
            rcases List.mem_append.1 hu with hu | hu
            · exact hE.out.2 u hu
            · simp at hu
              subst hu
              omega)
          clear hE c0 hx hr hs htk
          go_wp2
          exact ⟨⟨k + 1, z - (t.size : Int), by omega, by go_num, rfl, hz2, by omega, N1, hB⟩, by simp [intOf]; omega⟩
      · obtain rfl : k = l.length := by omega
        have R : Hid (Left l.length m (FitT l) z) := mkHid (by
          have h1 := hE.out
          rw [List.take_of_length_le (Nat.le_refl _)] at h1
          exact .inr ⟨hz0, h1.1, h1.2⟩)
        clear hE hr hs
        go_wp2
        go_ret
        exact ⟨⟨_, rfl, R.out⟩, hB.out⟩
set_option maxRecDepth 100000 in
theorem szN_m (m : Int) (hm0 : 0 ≤ m) (hm1 : m ≤ 1048576) (x0 : ByteArray) (x1 : Bool) (x2 : Int) (a : Option Addr) (c : Nat) (l : Tx) (w : World) (h0 : (x0.size : Int) ≤ 9223372036854775807) (hl : (l.length : Int) ≤ 9223372036854775807) (hs : ∀ t ∈ l, (t.size : Int) ≤ 9223372036854775807) (hr : Rd w a (tx l)) :
    Calls Try.prog 51 #[.agg #[.string x0, .bool x1, .int .i64 x2, .slice a l.length c], .int .i64 m] w fun e w' => (∃ z, e = .returned (.int .i64 z) ∧ Left l.length m (x0.size ≤ 1048576 ∧ FitT l) z) ∧ Below w.heap.size w w' := by
  by_cases g0 : m < (x0.size : Int)
  · clear hr hs
    go_enter Try.func51, Try.ntmps51
    go_wp2
    go_ret
    exact ⟨⟨_, rfl, .inl rfl⟩, below_alloc1 _ _⟩
  have g1 : 0 ≤ m - (x0.size : Int) := by omega
  have HZ := mkHid (szT_m (m - (x0.size : Int)) g1 (by omega) a c l (w.alloc (.cells #[.string x0, .bool x1, .int .i64 x2, .slice a l.length c] 84)) hl hs (hr.alloc _))
  clear hr hs
  go_enter Try.func51, Try.ntmps51
  go_wp2_with fail
  refine HZ.out.mono ?_
  rintro e w1 ⟨⟨z, rfl, hL⟩, hb1⟩
  have B1 := mkHid (below_allocs (os := [_]) hb1)
  by_cases hz : z < 0
  · clear hb1 HZ hL
    go_wp2
    go_ret
    exact ⟨⟨_, rfl, .inl rfl⟩, B1.out⟩
  · have hz0 : 0 ≤ z := by omega
    have hL2 : Hid (Left l.length m (x0.size ≤ 1048576 ∧ FitT l) z) := mkHid (by
      rcases hL with h | ⟨h1, h2, h3⟩
      · exact absurd h (by omega)
      · exact .inr ⟨h1, by omega, by omega, h3⟩)
    clear hb1 HZ hL
    go_wp2
    go_ret
    exact ⟨⟨_, rfl, hL2.out⟩, B1.out⟩
def some_ : List Nd → Int
  | [] => 0
  | d :: r => (d.2.2.2.2.2.length : Int) + some_ r
theorem some_pos : ∀ l, 0 ≤ some_ l
  | [] => by simp [some_]
  | d :: r => by have := some_pos r; unfold some_; omega
theorem some_app : ∀ l r, some_ (l ++ r) = some_ l + some_ r
  | [], r => by simp [some_]
  | d :: l, r => by rw [List.cons_append, some_, some_, some_app l r]; omega
theorem some_le : ∀ (l : List Nd) (d : Nd), d ∈ l → (d.2.2.2.2.2.length : Int) ≤ some_ l
  | [], d, h => by simp at h
  | e :: r, d, h => by
    have hp := some_pos r
    unfold some_
    rcases List.mem_cons.1 h with rfl | h
    · omega
    · have := some_le r d h
      omega
def FitN (ds : List Nd) : Prop := ∀ d ∈ ds, d.1.size ≤ 1048576 ∧ FitT d.2.2.2.2.2
/-- what comes in -/
def Big (ds : List Nd) : Prop := ∀ d ∈ ds, (d.1.size : Int) ≤ 9223372036854775807 ∧ (d.2.2.2.2.2.length : Int) ≤ 9223372036854775807 ∧ ∀ t ∈ d.2.2.2.2.2, (t.size : Int) ≤ 9223372036854775807
set_option maxRecDepth 100000 in
set_option maxHeartbeats 1000000 in
theorem szNS_any (a : Option Addr) (c : Nat) (ds : List Nd) (w : World) (hl : (ds.length : Int) ≤ 9223372036854775807) (hs : Big ds) (hr : RdN w a ds) :
    Calls Try.prog 20 #[.slice a ds.length c, .int .i64 1048576] w fun e w' => (∃ z, e = .returned (.int .i64 z) ∧ Left (ds.length + some_ ds) 1048576 (FitN ds) z) ∧ Below w.heap.size w w' := by
  by_cases h0 : (1048576 : Int) < (ds.length : Int)
  · go_enter Try.func20, Try.ntmps20
    go_wp2
    go_ret
    exact ⟨⟨_, rfl, .inl rfl⟩, Below.refl _ _⟩
  · have h0' : (ds.length : Int) ≤ 1048576 := by omega
    go_enter Try.func20, Try.ntmps20
    go_wp2_with fail
    go_loopw [1, 5] (fun m i wr => ∃ (k : Nat) (z : Int), k ≤ ds.length ∧ i = .int .i64 k ∧ m = .int .i64 z ∧ 0 ≤ z ∧ z ≤ 1048576 ∧ Hid (z + ds.length + some_ (ds.take k) ≤ 1048576 ∧ FitN (ds.take k)) ∧ Hid (Below w.heap.size w wr))
      (fun _ i _ => ds.length - (intOf i).toNat)
    case atStart => exact ⟨0, 1048576 - ds.length, Nat.zero_le _, rfl, rfl, by omega, by omega, mkHid ⟨by simp [some_], by intro d hd; simp at hd⟩, mkHid (Below.refl _ _)⟩
    case round =>
      obtain ⟨k, z, hk, rfl, rfl, hz0, hz1, hE, hB⟩ := hrel
      by_cases hlt : k < ds.length
      · have hlti : (k : Int) < (ds.length : Int) := by omega
        obtain ⟨d, hx⟩ : ∃ y, ds[k]? = some y := ⟨_, List.getElem?_eq_getElem hlt⟩
        have hdm := List.mem_of_getElem? hx
        obtain ⟨d0, d1, d2, da, dc, dl⟩ := d
        obtain ⟨g1, o1, rfl, c0, c1, c2, c3, l1⟩ := el hr.top hx
        simp only at c0 c1 c2 c3
        have e0 := (hB.out.cell (p := ⟨g1, o1 + k * 4, none⟩) l1).trans c0
        have e1 := (hB.out.cell (p := ⟨g1, o1 + k * 4 + 1, none⟩) l1).trans c1
        have e2 := (hB.out.cell (p := ⟨g1, o1 + k * 4 + 2, none⟩) l1).trans c2
        have e3 := (hB.out.cell (p := ⟨g1, o1 + k * 4 + 3, none⟩) l1).trans c3
        have HZ := mkHid (szN_m z hz0 hz1 d0 d1 d2 da dc dl wr (hs _ hdm).1 (hs _ hdm).2.1 (hs _ hdm).2.2 ((hr.each _ hdm).below hB.out))
        have ht : ds.take (k + 1) = ds.take k ++ [(d0, d1, d2, da, dc, dl)] := by rw [List.take_add_one, hx]; rfl
        have HN : Hid (∀ z', Left dl.length z (d0.size ≤ 1048576 ∧ FitT dl) z' → 0 ≤ z' → z' ≤ z ∧ z' + ds.length + some_ (ds.take (k + 1)) ≤ 1048576 ∧ FitN (ds.take (k + 1))) := mkHid (fun z' hL h => by
          rcases hL with h1 | ⟨h1, h2, h3⟩
          · omega
          · rw [ht, some_app]
            have := hE.out.1
            have e : some_ [(d0, d1, d2, da, dc, dl)] = (dl.length : Int) := by simp [some_]
            refine ⟨by omega, by rw [e]; omega, ?_⟩
            intro d hd
            rcases List.mem_append.1 hd with hd | hd
            · exact hE.out.2 d hd
            · simp at hd
              subst hd
              exact h3)
        clear c0 c1 c2 c3 hx hr hs hdm ht hE
        go_wp2_with fail
        refine HZ.out.mono ?_
        rintro e w1 ⟨⟨z', rfl, hL⟩, hb1⟩
        have B1 := mkHid (hB.out.trans (hb1.mono hB.out.size))
        by_cases hz' : z' < 0
        · clear hb1 HZ hL HN e0 e1 e2 e3
          go_wp2
          go_ret
          exact ⟨⟨_, rfl, .inl rfl⟩, B1.out⟩
        · have hz2 : 0 ≤ z' := by omega
          have hq := HN.out z' hL hz2
          have hz3 : z' ≤ 1048576 := by omega
          have N1 := mkHid hq.2
          clear hb1 HZ hL HN e0 e1 e2 e3 hq
          go_wp2
          exact ⟨⟨k + 1, z', by omega, by go_num, rfl, hz2, hz3, N1, B1⟩, by simp [intOf]; omega⟩
      · obtain rfl : k = ds.length := by omega
        have R : Hid (Left (ds.length + some_ ds) 1048576 (FitN ds) z) := mkHid (by
          have h1 := hE.out
          rw [List.take_of_length_le (Nat.le_refl _)] at h1
          exact .inr ⟨hz0, by omega, h1.2⟩)
        clear hE hr hs
        go_wp2
        go_ret
        exact ⟨⟨_, rfl, R.out⟩, hB.out⟩
end Go.Proofs.Ytmmmadehifajlaa.nod
namespace Go.Proofs.Ytmmmadehifajlaa.nod
open Go.RowKit Go.Joins
open Go.Proofs.Ytmmmadehifajlaa.base Go.Proofs.Ytmmmadehifajlaa.blk Go.Proofs.Ytmmmadehifajlaa.aid
open Go.Proofs.Ytmmmadehifajlaa.row (Rd Own OwnV)
open Go.Proofs.Ytmmmadehifajlaa.strs (tx strV)
open Go.Proofs.Ytmmmadehifajlaa.mem (Mem Mine Off)
set_option linter.unusedVariables false
set_option linter.unusedSimpArgs false

/-- a row of keys of its own is the answer -/
def KPost (w : World) (l : Tx) (e : Ending) (w' : World) : Prop :=
  ∃ a c, e = .returned (.slice a l.length c) ∧ OwnV 9 w' a (tx l) ∧ (∀ b o s, a = some ⟨b, o, s⟩ → w.heap.size ≤ b) ∧ Below w.heap.size w w' ∧ l.length ≤ c
def partT (l : Tx) (k : Nat) : Tx := l.take k ++ List.replicate (l.length - k) ⟨#[]⟩
theorem partT_len (l : Tx) (k : Nat) (h : k ≤ l.length) : (partT l k).length = l.length := by simp [partT]; omega
theorem partT_next (l : Tx) (k : Nat) (b : ByteArray) (h : l[k]? = some b) : (tx (partT l k)).set k (.string b) = tx (partT l (k + 1)) := by
  have hlt := (List.getElem?_eq_some_iff.1 h).1
  have e0 : (partT l k).set k b = partT l (k + 1) := by
    unfold partT
    have e1 : (l.take k).length = k := by simp; omega
    rw [List.set_append_right _ _ (by omega), e1, Nat.sub_self, show l.length - k = (l.length - (k + 1)) + 1 by omega, List.replicate_succ, List.set_cons_zero, List.take_add_one, h]
    simp
  rw [← e0]
  unfold strs.tx
  rw [List.map_set]
  rfl
set_option maxRecDepth 100000 in
set_option maxHeartbeats 1000000 in
theorem toT_any (a : Option Addr) (c : Nat) (l : Tx) (w : World) (hl : l.length ≤ 1048576) (hr : Rd w a (tx l)) :
    Calls Try.prog 80 #[.slice a l.length c] w (KPost w l) := by
  have hmk := run_make_texts l.length hl
  go_enter Try.func80, Try.ntmps80
  go_wp2_with fail
  go_loopw [4] (fun i wr => ∃ k : Nat, k ≤ l.length ∧ i = .int .i64 k ∧ Hid (Own 9 wr w.heap.size (tx (partT l k)) ∧ Below w.heap.size w wr))
    (fun i _ => l.length - (intOf i).toNat)
  case atStart => exact ⟨0, Nat.zero_le _, rfl, mkHid ⟨⟨[], by rw [List.append_nil]; exact blk_new w _ _ rfl⟩, below_alloc1 _ _⟩⟩
  case round =>
    obtain ⟨k, hk, rfl, hO⟩ := hrel
    by_cases hlt : k < l.length
    · have hlti : (k : Int) < (l.length : Int) := by omega
      obtain ⟨t, hx⟩ : ∃ y, l[k]? = some y := ⟨_, List.getElem?_eq_getElem hlt⟩
      obtain ⟨g1, o1, rfl, c0, l1⟩ := tx_el hr hx
      have e0 := (hO.out.2.cell (p := ⟨g1, o1 + k, none⟩) l1).trans c0
      obtain ⟨y, hy⟩ : ∃ y, (partT l k)[k]? = some y := ⟨_, List.getElem?_eq_getElem (by rw [partT_len l k hk]; exact hlt)⟩
      have d0 := hO.out.1.cell (tx_at hy)
      have hf := hO.out.1.free
      have hlen : (tx (partT l k)).length = l.length := by rw [tx_len, partT_len l k hk]
      have N1 : Hid (Own 9 (wr.setCell ⟨w.heap.size, k, none⟩ (.string t)) w.heap.size (tx (partT l (k + 1))) ∧ Below w.heap.size w (wr.setCell ⟨w.heap.size, k, none⟩ (.string t))) := mkHid ⟨by
        have h := hO.out.1.set k (by omega) (.string t)
        rw [partT_next l k t hx] at h
        exact h, hO.out.2.setCell (by simp) _⟩
      have N2 : Hid (Own 9 (wr.drew.setCell ⟨w.heap.size, k, none⟩ (.string t)) w.heap.size (tx (partT l (k + 1))) ∧ Below w.heap.size w (wr.drew.setCell ⟨w.heap.size, k, none⟩ (.string t))) := mkHid ⟨by
        have h := (hO.out.1.block (w' := wr.drew) rfl).set k (by omega) (.string t)
        rw [partT_next l k t hx] at h
        exact h, hO.out.2.drew.setCell (by simp) _⟩
      clear c0 hx hr hO hy hlen
      go_wp2
      exact ⟨⟨k + 1, by omega, by go_num, by first | exact N1 | exact N2⟩, by simp [intOf]; omega⟩
    · obtain rfl : k = l.length := by omega
      have e : partT l l.length = l := by simp [partT]
      have R := hO.out
      rw [e] at R
      have R' := mkHid R
      clear R hO hr
      go_wp2
      go_ret
      exact ⟨_, _, rfl, .inr ⟨_, rfl, R'.out.1⟩, fun b o s e => by simp at e; omega, R'.out.2, Nat.le_refl _⟩
theorem own_off {T : TypeId} {w : World} {a : Option Addr} {xs : List Value} {p : Addr} {v : Value} (h : OwnV T w a xs) (hne : ∀ b o s, a = some ⟨b, o, s⟩ → b ≠ p.block) : OwnV T (w.setCell p v) a xs := by
  rcases h with h | ⟨g, rfl, ho⟩
  · exact .inl h
  · exact .inr ⟨g, rfl, ho.block (Below.heap_setCell _ _ _ _ (hne g 0 none rfl))⟩
/-- a node with keys of its own is the answer -/
def DPost (w : World) (x0 : ByteArray) (x1 : Bool) (x2 : Int) (l : Tx) (e : Ending) (w' : World) : Prop :=
  ∃ a c, e = .returned (.agg #[.string x0, .bool x1, .int .i64 x2, .slice a l.length c]) ∧ OwnV 9 w' a (tx l) ∧ (∀ b o s, a = some ⟨b, o, s⟩ → w.heap.size ≤ b) ∧ Below w.heap.size w w' ∧ l.length ≤ c
set_option maxRecDepth 100000 in
set_option maxHeartbeats 1000000 in
theorem to_any (x0 : ByteArray) (x1 : Bool) (x2 : Int) (a : Option Addr) (c : Nat) (l : Tx) (w : World) (hl : l.length ≤ 1048576) (hr : Rd w a (tx l)) :
    Calls Try.prog 53 #[.agg #[.string x0, .bool x1, .int .i64 x2, .slice a l.length c]] w (DPost w x0 x1 x2 l) := by
  have HT := mkHid (fun wx (hx : Rd wx a (tx l)) => toT_any a c l wx hl hx)
  unfold KPost at HT
  have HR := mkHid hr
  clear hr
  go_enter Try.func53, Try.ntmps53
  go_wp2_with fail
  have H3 := mkHid (((HR.out.alloc (.cells #[.string x0, .bool x1, .int .i64 x2, .slice a l.length c] 84)).alloc (.cells #[.string ⟨#[]⟩, .bool false, .int .i64 0, .slice none 0 0] 59)).alloc (.cells #[.string x0, .bool x1, .int .i64 x2, .slice none 0 0] 59))
  refine (HT.out _ H3.out).mono ?_
  rintro e w1 ⟨a', c', rfl, ho, hf, hb1, hcap⟩
  have HCap := mkHid hcap
  have K1 := blk_below (blk_old (blk_new (w.alloc (.cells #[.string x0, .bool x1, .int .i64 x2, .slice a l.length c] 84)) (.cells #[.string ⟨#[]⟩, .bool false, .int .i64 0, .slice none 0 0] 59) (w.heap.size + 1) (by simp)) (.cells #[.string x0, .bool x1, .int .i64 x2, .slice none 0 0] 59)) hb1
  have K2 := blk_below (blk_new ((w.alloc (.cells #[.string x0, .bool x1, .int .i64 x2, .slice a l.length c] 84)).alloc (.cells #[.string ⟨#[]⟩, .bool false, .int .i64 0, .slice none 0 0] 59)) (.cells #[.string x0, .bool x1, .int .i64 x2, .slice none 0 0] 59) (w.heap.size + 1 + 1) (by simp)) hb1
  obtain ⟨d0, d1, d2, d3⟩ := cel4 K1
  obtain ⟨f0, f1, f2, f3⟩ := cel4 K2
  have g1 : ∀ j, w1.frozen? ⟨w.heap.size + 1, j, none⟩ = false := unfrozen K1
  have g2 : ∀ j, w1.frozen? ⟨w.heap.size + 1 + 1, j, none⟩ = false := unfrozen K2
  have hf' : ∀ b o s, a' = some ⟨b, o, s⟩ → w.heap.size + 3 ≤ b := fun b o s e => by have := hf b o s e; simp at this; omega
  have hsz : w.heap.size + 3 ≤ w1.heap.size := by have := hb1.size; simp at this; omega
  have B1 := below_allocs (os := [_, _, _]) hb1
  have HN : Hid (∀ (x y z u v : Value), OwnV 9 (((((w1.setCell ⟨w.heap.size + 1 + 1, 3, none⟩ x).setCell ⟨w.heap.size + 1, 0, none⟩ y).setCell ⟨w.heap.size + 1, 1, none⟩ z).setCell ⟨w.heap.size + 1, 2, none⟩ u).setCell ⟨w.heap.size + 1, 3, none⟩ v) a' (tx l) ∧ Below w.heap.size w (((((w1.setCell ⟨w.heap.size + 1 + 1, 3, none⟩ x).setCell ⟨w.heap.size + 1, 0, none⟩ y).setCell ⟨w.heap.size + 1, 1, none⟩ z).setCell ⟨w.heap.size + 1, 2, none⟩ u).setCell ⟨w.heap.size + 1, 3, none⟩ v)) := mkHid (fun x y z u v => ⟨own_off (own_off (own_off (own_off (own_off ho (fun b o s e => by have := hf' b o s e; simp; omega)) (fun b o s e => by have := hf' b o s e; simp; omega)) (fun b o s e => by have := hf' b o s e; simp; omega)) (fun b o s e => by have := hf' b o s e; simp; omega)) (fun b o s e => by have := hf' b o s e; simp; omega), ((((B1.setCell (by simp; omega) _).setCell (by simp) _).setCell (by simp) _).setCell (by simp) _).setCell (by simp) _⟩)
  have HF := mkHid hf'
  clear ho hf hf' hb1 hcap K1 K2 B1 HT H3 HR
  go_wp2
  exact bodyPost_ret (v := .agg #[.string x0, .bool x1, .int .i64 x2, .slice a' l.length c']) (by simp [results, Try.results53, go_sem, d0, d1, d2, d3]) rfl ⟨a', c', rfl, (HN.out _ _ _ _ _).1, fun b o s e => by have := HF.out b o s e; omega, (HN.out _ _ _ _ _).2, HCap.out⟩
/-- a variable that is a row of cells is a row of our own -/
theorem varOwn {W wx : World} {z : Nat} {t : TypeId} {xs : List Value} {bs : List (Nat × Obj)} {rs : List (Option Addr × List Value)} {os : List Mine} (h : Mem W ((z, .cells xs.toArray t) :: bs) rs os wx) (hz : W.heap.size ≤ z) (hd : ∀ p ∈ bs, p.1 ≠ z) (hr : ∀ p ∈ rs, Off p.1 p.2 z) : Mem W bs rs (⟨t, some ⟨z, 0, none⟩, xs⟩ :: os) wx := by
  refine ⟨h.below, fun p hp => h.b p (.tail _ hp), h.r, ?_, ?_, ?_⟩
  · intro p hp
    rcases List.mem_cons.1 hp with rfl | hp
    · exact .inr ⟨z, rfl, [], by rw [List.append_nil]; exact h.b0⟩
    · exact h.o p hp
  · intro p hp hx g o s e
    rcases List.mem_cons.1 hp with rfl | hp
    · simp at e
      obtain ⟨rfl, rfl, rfl⟩ := e
      exact ⟨hz, hd, hr⟩
    · obtain ⟨n1, n2, n3⟩ := h.new p hp hx g o s e
      exact ⟨n1, fun q hq => n2 q (.tail _ hq), n3⟩
  · refine List.pairwise_cons.2 ⟨?_, h.apart⟩
    intro q hq hx g o s e
    simp at e
    obtain ⟨rfl, rfl, rfl⟩ := e
    by_cases hq0 : q.xs = []
    · exact .inl hq0
    · refine .inr (fun o2 s2 e2 => ?_)
      exact (h.new q hq hq0 _ o2 s2 e2).2.1 (z, .cells xs.toArray t) (.head _) rfl
theorem rdN_of {W wx : World} {bs : List (Nat × Obj)} {rs : List (Option Addr × List Value)} {os : List Mine} {a : Option Addr} {ds es : List Nd} (h : Mem W bs rs (⟨59, a, ncs ds⟩ :: (mines es ++ os)) wx) (he : ∀ d ∈ ds, d ∈ es) : RdN wx a ds :=
  ⟨h.o0.rd, fun d hd => (h.o ⟨9, d.2.2.2.1, tx d.2.2.2.2.2⟩ (.tail _ (List.mem_append_left _ (List.mem_map.2 ⟨d, he d hd, rfl⟩)))).rd⟩
/-- there is room for the keys -/
def CapN (ds : List Nd) : Prop := ∀ d ∈ ds, d.2.2.2.2.2.length ≤ d.2.2.2.2.1
/-- what toNodeS answers -/
def TPost (w : World) (ds : List Nd) (e : Ending) (w' : World) : Prop :=
  ∃ ds', e = .returned (.slice (some ⟨w.heap.size, 0, none⟩) ds.length ds.length) ∧ ds'.map val = ds.map val ∧ CapN ds' ∧ Mem w [] [] (⟨59, some ⟨w.heap.size, 0, none⟩, ncs ds'⟩ :: mines ds'.reverse) w'
theorem put_next (ds' : List Nd) (d : Nd) (n : Nat) (h : ds'.length < n) : (((((ncs (ds' ++ List.replicate (n - ds'.length) zeroN)).toArray.setIfInBounds (ds'.length * 4) (.string d.1)).setIfInBounds (ds'.length * 4 + 1) (.bool d.2.1)).setIfInBounds (ds'.length * 4 + 2) (.int .i64 d.2.2.1)).setIfInBounds (ds'.length * 4 + 3) (.slice d.2.2.2.1 d.2.2.2.2.2.length d.2.2.2.2.1)) = (ncs ((ds' ++ [d]) ++ List.replicate (n - (ds' ++ [d]).length) zeroN)).toArray := by
  simp only [List.setIfInBounds_toArray]
  rw [ncs_set _ _ _ (by simp; omega)]
  congr 2
  rw [List.set_append_right _ _ (Nat.le_refl _), Nat.sub_self]
  have e : n - ds'.length = (n - (ds' ++ [d]).length) + 1 := by simp; omega
  rw [e, List.replicate_succ, List.set_cons_zero]
  simp
theorem take_val {ds ds' : List Nd} {k : Nat} {d d' : Nd} (h : ds'.map val = (ds.take k).map val) (hx : ds[k]? = some d) (hd : val d' = val d) : (ds' ++ [d']).map val = (ds.take (k + 1)).map val := by
  rw [List.take_add_one, hx]
  simp [h, hd]
set_option maxRecDepth 100000 in
set_option maxHeartbeats 2000000 in
theorem toS_any (a : Option Addr) (c : Nat) (ds : List Nd) (w : World) (hs : ds.length ≤ 1048576) (hs2 : ∀ d ∈ ds, d.2.2.2.2.2.length ≤ 1048576) (hr : RdN w a ds) :
    Calls Try.prog 22 #[.slice a ds.length c] w (TPost w ds) := by
  have hmk := run_make_rows ds.length hs
  have M0 : Hid (Mem w [(w.heap.size, .cells (ncs ([] ++ List.replicate (ds.length - 0) zeroN)).toArray 59)] [] (mines ([] : List Nd).reverse) (w.alloc (.cells (ncs (List.replicate ds.length zeroN)).toArray 59))) := mkHid ((mem.start w).var _)
  go_enter Try.func22, Try.ntmps22
  go_wp2_with fail
  go_loopw [4] (fun i wr => ∃ (k : Nat) (ds' : List Nd), k ≤ ds.length ∧ i = .int .i64 k ∧ ds'.length = k ∧ Hid (ds'.map val = (ds.take k).map val ∧ CapN ds') ∧ Hid (Mem w [(w.heap.size, .cells (ncs (ds' ++ List.replicate (ds.length - ds'.length) zeroN)).toArray 59)] [] (mines ds'.reverse) wr))
    (fun i _ => ds.length - (intOf i).toNat)
  case atStart => exact ⟨0, [], Nat.zero_le _, rfl, rfl, mkHid ⟨rfl, fun d hd => by simp at hd⟩, M0⟩
  case round =>
    clear M0
    obtain ⟨k, ds', hk, rfl, hkl, hv, hM⟩ := hrel
    by_cases hlt : k < ds.length
    · have hlti : (k : Int) < (ds.length : Int) := by omega
      obtain ⟨d, hx⟩ : ∃ y, ds[k]? = some y := ⟨_, List.getElem?_eq_getElem hlt⟩
      have hdm := List.mem_of_getElem? hx
      obtain ⟨x0, x1, x2, da, dc, dl⟩ := d
      obtain ⟨g1, o1, rfl, c0, c1, c2, c3, l1⟩ := el hr.top hx
      simp only at c0 c1 c2 c3
      have e0 := (hM.out.below.cell (p := ⟨g1, o1 + k * 4, none⟩) l1).trans c0
      have e1 := (hM.out.below.cell (p := ⟨g1, o1 + k * 4 + 1, none⟩) l1).trans c1
      have e2 := (hM.out.below.cell (p := ⟨g1, o1 + k * 4 + 2, none⟩) l1).trans c2
      have e3 := (hM.out.below.cell (p := ⟨g1, o1 + k * 4 + 3, none⟩) l1).trans c3
      have HT := mkHid (to_any x0 x1 x2 da dc dl wr (hs2 _ hdm) ((hr.each _ hdm).below hM.out.below))
      unfold DPost at HT
      have HX := mkHid hx
      have HL : Hid (ds'.length < ds.length) := mkHid (by omega)
      clear c0 c1 c2 c3 hx hr hs2 hdm
      go_wp2_with fail
      refine HT.out.mono ?_
      rintro e w1 ⟨a2, cc, rfl, ho, hf, hb, hcap⟩
      have M1 := mkHid (hM.out.own hb ho hf)
      have hb0 := M1.out.b0
      have hfz := unfrozen_of_block hb0
      have M2 := (((M1.out.wr (k * 4) (.string x0) (Nat.le_refl _) (by simp) (by simp)).wr (k * 4 + 1) (.bool x1) (Nat.le_refl _) (by simp) (by simp)).wr (k * 4 + 2) (.int .i64 x2) (Nat.le_refl _) (by simp) (by simp)).wr (k * 4 + 3) (.slice a2 dl.length cc) (Nat.le_refl _) (by simp) (by simp)
      rw [← hkl, put_next ds' (x0, x1, x2, a2, cc, dl) ds.length HL.out, hkl] at M2
      have M3 : Hid (Mem w [(w.heap.size, .cells (ncs ((ds' ++ [(x0, x1, x2, a2, cc, dl)]) ++ List.replicate (ds.length - (ds' ++ [(x0, x1, x2, a2, cc, dl)]).length) zeroN)).toArray 59)] [] (mines (ds' ++ [(x0, x1, x2, a2, cc, dl)]).reverse) ((((w1.setCell ⟨w.heap.size, k * 4, none⟩ (.string x0)).setCell ⟨w.heap.size, k * 4 + 1, none⟩ (.bool x1)).setCell ⟨w.heap.size, k * 4 + 2, none⟩ (.int .i64 x2)).setCell ⟨w.heap.size, k * 4 + 3, none⟩ (.slice a2 dl.length cc))) := mkHid (by
        rw [List.reverse_append]
        exact M2)
      have hdsz : (ncs (ds' ++ List.replicate (ds.length - ds'.length) zeroN)).length = 4 * ds.length := by rw [ncs_len]; simp; omega
      have hz : ∀ j, j < 4 * ds.length → ∃ v, w1.cell? ⟨w.heap.size, j, none⟩ = some v := by
        intro j hj
        rw [cell_of_block hb0]
        exact ⟨_, by simp; exact List.getElem?_eq_getElem (by omega)⟩
      obtain ⟨v0, z0⟩ := hz (k * 4) (by omega)
      obtain ⟨v1, z1⟩ := hz (k * 4 + 1) (by omega)
      obtain ⟨v2, z2⟩ := hz (k * 4 + 2) (by omega)
      obtain ⟨v3, z3⟩ := hz (k * 4 + 3) (by omega)
      have N1 : Hid ((ds' ++ [(x0, x1, x2, a2, cc, dl)]).map val = (ds.take (k + 1)).map val ∧ CapN (ds' ++ [(x0, x1, x2, a2, cc, dl)])) := mkHid ⟨take_val hv.out.1 HX.out rfl, fun d hd => by
        rcases List.mem_append.1 hd with hd | hd
        · exact hv.out.2 d hd
        · simp at hd
          subst hd
          exact hcap⟩
      have hl2 : (ds' ++ [(x0, x1, x2, a2, cc, dl)]).length = k + 1 := by simp [hkl]
      clear hb ho hf hcap M1 M2 hM hb0 hdsz HX HL HT e0 e1 e2 e3 hv hz
      go_wp2
      exact ⟨⟨k + 1, ds' ++ [(x0, x1, x2, a2, cc, dl)], by omega, by go_num, hl2, N1, M3⟩, by simp [intOf]; omega⟩
    · obtain rfl : k = ds.length := by omega
      have R : Hid (TPost w ds (.returned (.slice (some ⟨w.heap.size, 0, none⟩) ds.length ds.length)) wr) := mkHid (by
        have h1 := hM.out
        rw [hkl, Nat.sub_self, List.replicate_zero, List.append_nil] at h1
        have h2 := hv.out.1
        rw [List.take_of_length_le (Nat.le_refl _)] at h2
        exact ⟨ds', rfl, h2, hv.out.2, varOwn h1 (Nat.le_refl _) (by simp) (by simp)⟩)
      clear hM hv hr hs2
      go_wp2
      go_ret
      exact R.out
theorem rdN_mem {W wx : World} {a : Option Addr} {ds' : List Nd} {bs : List (Nat × Obj)} {rs : List (Option Addr × List Value)} {os : List Mine} (h : Mem W bs rs (⟨59, a, ncs ds'⟩ :: (mines ds'.reverse ++ os)) wx) : RdN wx a ds' := rdN_of h (fun d hd => List.mem_reverse.2 hd)
set_option maxRecDepth 100000 in
set_option maxHeartbeats 1000000 in
theorem eq_same (x0 : ByteArray) (x1 : Bool) (x2 : Int) (a b : Option Addr) (ca cb : Nat) (l : Tx) (w : World) (hl : l.length ≤ 1048576) (ha : Rd w a (tx l)) (hb : Rd w b (tx l)) :
    Calls Try.prog 54 #[.agg #[.string x0, .bool x1, .int .i64 x2, .slice a l.length ca], .agg #[.string x0, .bool x1, .int .i64 x2, .slice b l.length cb]] w fun e w' => e = .returned (.bool true) ∧ Below w.heap.size w w' := by
  have h1 : (x2 != x2) = false := by simp
  have h2 : (!x0.toList == x0.toList) = false := by simp
  have h3 : (x1 != x1) = false := by simp
  have HE := mkHid (strs.eqX_same a b ca cb l _ hl ((ha.alloc (.cells #[.string x0, .bool x1, .int .i64 x2, .slice a l.length ca] 59)).alloc (.cells #[.string x0, .bool x1, .int .i64 x2, .slice b l.length cb] 59)) ((hb.alloc (.cells #[.string x0, .bool x1, .int .i64 x2, .slice a l.length ca] 59)).alloc (.cells #[.string x0, .bool x1, .int .i64 x2, .slice b l.length cb] 59)))
  clear ha hb
  go_enter Try.func54, Try.ntmps54
  go_wp2_with fail
  refine HE.out.mono ?_
  rintro e w1 ⟨rfl, hb1⟩
  have B1 := mkHid (below_allocs (os := [_, _]) hb1)
  clear hb1 HE
  go_wp2
  go_ret
  exact ⟨rfl, B1.out⟩
set_option maxRecDepth 100000 in
set_option maxHeartbeats 2000000 in
theorem eqS_same (a b : Option Addr) (ca cb : Nat) (ds es : List Nd) (w : World) (n : Nat) (hn : ds.length = n) (hv : es.map val = ds.map val) (hl : n ≤ 1048576) (hs : ∀ d ∈ ds, d.2.2.2.2.2.length ≤ 1048576) (ha : RdN w a ds) (hb : RdN w b es) :
    Calls Try.prog 23 #[.slice a n ca, .slice b n cb] w fun e w' => e = .returned (.bool true) ∧ Below w.heap.size w w' := by
  have hli : (n : Int) ≤ 1048576 := by omega
  have HV := mkHid hv
  clear hv
  go_enter Try.func23, Try.ntmps23
  go_wp2
  go_loopw [5] (fun i wr => ∃ k : Nat, k ≤ n ∧ i = .int .i64 k ∧ Hid (Below w.heap.size w wr))
    (fun i _ => n - (intOf i).toNat)
  case atStart => exact ⟨0, Nat.zero_le _, rfl, mkHid (Below.refl _ _)⟩
  case round =>
    obtain ⟨k, hk, rfl, hB⟩ := hrel
    by_cases hlt : k < n
    · have hlti : (k : Int) < (n : Int) := by omega
      obtain ⟨d, hx⟩ : ∃ y, ds[k]? = some y := ⟨_, List.getElem?_eq_getElem (by omega)⟩
      obtain ⟨x0, x1, x2, da, dc, dl⟩ := d
      obtain ⟨ea, ec, hy⟩ := val_at HV.out hx
      obtain ⟨g1, o1, rfl, c0, c1, c2, c3, l1⟩ := el ha.top hx
      obtain ⟨g2, o2, rfl, d0, d1, d2, d3, l2⟩ := el hb.top hy
      simp only at c0 c1 c2 c3 d0 d1 d2 d3
      have e0 := (hB.out.cell (p := ⟨g1, o1 + k * 4, none⟩) l1).trans c0
      have e1 := (hB.out.cell (p := ⟨g1, o1 + k * 4 + 1, none⟩) l1).trans c1
      have e2 := (hB.out.cell (p := ⟨g1, o1 + k * 4 + 2, none⟩) l1).trans c2
      have e3 := (hB.out.cell (p := ⟨g1, o1 + k * 4 + 3, none⟩) l1).trans c3
      have f0 := (hB.out.cell (p := ⟨g2, o2 + k * 4, none⟩) l2).trans d0
      have f1 := (hB.out.cell (p := ⟨g2, o2 + k * 4 + 1, none⟩) l2).trans d1
      have f2 := (hB.out.cell (p := ⟨g2, o2 + k * 4 + 2, none⟩) l2).trans d2
      have f3 := (hB.out.cell (p := ⟨g2, o2 + k * 4 + 3, none⟩) l2).trans d3
      have HE := mkHid (fun wx (h : Below w.heap.size w wx) => eq_same x0 x1 x2 da ea dc ec dl wx (hs _ (List.mem_of_getElem? hx)) ((ha.each _ (List.mem_of_getElem? hx)).below h) ((hb.each _ (List.mem_of_getElem? hy)).below h))
      clear c0 c1 c2 c3 d0 d1 d2 d3 hx hy hs ha hb
      go_wp2_with fail
      go_region_held3 (fun w' => w'.cell? ⟨g1, o1 + k * 4, none⟩ = some (.string x0) ∧ w'.cell? ⟨g1, o1 + k * 4 + 1, none⟩ = some (.bool x1) ∧ w'.cell? ⟨g1, o1 + k * 4 + 2, none⟩ = some (.int .i64 x2) ∧ w'.cell? ⟨g1, o1 + k * 4 + 3, none⟩ = some (.slice da dl.length dc) ∧ w'.cell? ⟨g2, o2 + k * 4, none⟩ = some (.string x0) ∧ w'.cell? ⟨g2, o2 + k * 4 + 1, none⟩ = some (.bool x1) ∧ w'.cell? ⟨g2, o2 + k * 4 + 2, none⟩ = some (.int .i64 x2) ∧ w'.cell? ⟨g2, o2 + k * 4 + 3, none⟩ = some (.slice ea dl.length ec)) (go_keep)
        ((go_at_call 54; refine Calls.mono (HE.out _ (by first | exact hB.out | exact hB.out.drew)) ?_; rintro e w1 ⟨rfl, hb1⟩; have r1 := re (w := wr) hb1 rfl rfl rfl rfl; have B1 := mkHid (hB.out.trans (r1.mono hB.out.size)); have q0 := (r1.cell (p := ⟨g1, o1 + k * 4, none⟩) (World.block_lt_of_cell? wr _ e0)).trans e0; have q1 := (r1.cell (p := ⟨g1, o1 + k * 4 + 1, none⟩) (World.block_lt_of_cell? wr _ e1)).trans e1; have q2 := (r1.cell (p := ⟨g1, o1 + k * 4 + 2, none⟩) (World.block_lt_of_cell? wr _ e2)).trans e2; have q3 := (r1.cell (p := ⟨g1, o1 + k * 4 + 3, none⟩) (World.block_lt_of_cell? wr _ e3)).trans e3; have q4 := (r1.cell (p := ⟨g2, o2 + k * 4, none⟩) (World.block_lt_of_cell? wr _ f0)).trans f0; have q5 := (r1.cell (p := ⟨g2, o2 + k * 4 + 1, none⟩) (World.block_lt_of_cell? wr _ f1)).trans f1; have q6 := (r1.cell (p := ⟨g2, o2 + k * 4 + 2, none⟩) (World.block_lt_of_cell? wr _ f2)).trans f2; have q7 := (r1.cell (p := ⟨g2, o2 + k * 4 + 3, none⟩) (World.block_lt_of_cell? wr _ f3)).trans f3; clear hb1 r1))
      go_wp2
      exact ⟨⟨k + 1, by omega, by go_num, by first | exact B1 | exact mkHid B1.out.drew⟩, by simp [intOf]; omega⟩
    · obtain rfl : k = n := by omega
      clear hs ha hb
      go_wp2
      go_ret
      exact ⟨rfl, hB.out⟩
end Go.Proofs.Ytmmmadehifajlaa.nod
namespace Go.Proofs.Ytmmmadehifajlaa.nod
open Go.RowKit Go.Joins
open Go.Proofs.Ytmmmadehifajlaa.base Go.Proofs.Ytmmmadehifajlaa.blk Go.Proofs.Ytmmmadehifajlaa.aid
open Go.Proofs.Ytmmmadehifajlaa.row (Rd Own OwnV appSem app_fold app1)
open Go.Proofs.Ytmmmadehifajlaa.strs (tx strV)
open Go.Proofs.Ytmmmadehifajlaa.mem (Mem Mine Off)
set_option linter.unusedVariables false
set_option linter.unusedSimpArgs false

/-- something is written that is none of what holds -/
theorem memGrow {W wx w' : World} {bs : List (Nat × Obj)} {rs : List (Option Addr × List Value)} {os : List Mine} {r : Option Nat} (h : Mem W bs rs os wx) (hg : wx.grownBy w' r) (hr : ∀ b, r = some b → W.heap.size ≤ b ∧ (∀ p ∈ bs, p.1 ≠ b) ∧ (∀ p ∈ rs, Off p.1 p.2 b) ∧ ∀ p ∈ os, Off p.a p.xs b) : Mem W bs rs os w' :=
  ⟨h.below.grown hg h.below.size (fun k hk => (hr k hk).1), fun p hp => (hg.block p.1 (Array.getElem?_eq_some_iff.1 (h.b p hp)).1 (fun e => (hr p.1 e.symm).2.1 p hp rfl)).trans (h.b p hp), fun p hp => mem.rd_off (h.r p hp) hg (fun b e => (hr b e).2.2.1 p hp), fun p hp => mem.own_off (h.o p hp) hg (fun b e => (hr b e).2.2.2 p hp), h.new, h.apart⟩
/-- the first variable has turned, nothing else -/
theorem memTurn {W wx w' : World} {z : Nat} {o o' : Obj} {bs : List (Nat × Obj)} {rs : List (Option Addr × List Value)} {os : List Mine} (h : Mem W ((z, o) :: bs) rs os wx) (hg : wx.grownBy w' (some z)) (hat : w'.heap[z]? = some o') (hz : W.heap.size ≤ z) (hd : ∀ p ∈ bs, p.1 ≠ z) (hr : ∀ p ∈ rs, Off p.1 p.2 z) : Mem W ((z, o') :: bs) rs os w' := by
  have hoff : ∀ p ∈ os, Off p.a p.xs z := fun p hp => by
    by_cases hx : p.xs = []
    · exact .inl hx
    · exact .inr (fun o2 s2 e2 => (h.new p hp hx z o2 s2 e2).2.1 (z, o) (.head _) rfl)
  have h2 : Mem W bs rs os w' := memGrow (⟨h.below, fun p hp => h.b p (.tail _ hp), h.r, h.o, fun p hp hx g o s e => ⟨(h.new p hp hx g o s e).1, fun q hq => (h.new p hp hx g o s e).2.1 q (.tail _ hq), (h.new p hp hx g o s e).2.2⟩, h.apart⟩) hg (fun b e => by cases e; exact ⟨hz, hd, hr, hoff⟩)
  refine ⟨h2.below, ?_, h2.r, h2.o, ?_, h2.apart⟩
  · intro p hp
    rcases List.mem_cons.1 hp with rfl | hp
    · exact hat
    · exact h2.b p hp
  · intro p hp hx g o2 s e
    obtain ⟨n1, n2, n3⟩ := h.new p hp hx g o2 s e
    refine ⟨n1, ?_, n3⟩
    intro q hq
    rcases List.mem_cons.1 hq with rfl | hq
    · exact n2 (z, o) (.head _)
    · exact n2 q (.tail _ hq)
/-- what holds ahead, and what is new behind it -/
theorem memJoin {W wx w' : World} {bs : List (Nat × Obj)} {rs : List (Option Addr × List Value)} {os os2 : List Mine} (h : Mem W bs rs os wx) (h2 : Mem wx [] [] os2 w') : Mem W bs rs (os2 ++ os) w' := by
  have h1 := h.next h2.below
  refine ⟨h1.below, h1.b, h1.r, ?_, ?_, ?_⟩
  · intro p hp
    rcases List.mem_append.1 hp with hp | hp
    · exact h2.o p hp
    · exact h1.o p hp
  · intro p hp hx g o s e
    rcases List.mem_append.1 hp with hp | hp
    · have hg := (h2.new p hp hx g o s e).1
      refine ⟨Nat.le_trans h.below.size hg, fun q hq e2 => ?_, fun q hq => ?_⟩
      · have := (Array.getElem?_eq_some_iff.1 (h.b q hq)).1
        omega
      · by_cases hq0 : q.2 = []
        · exact .inl hq0
        · refine .inr (fun o2 s2 e2 => ?_)
          have := mem.rd_lt (h.r q hq) hq0 g o2 s2 e2
          omega
    · exact h1.new p hp hx g o s e
  · refine List.pairwise_append.2 ⟨h2.apart, h.apart, ?_⟩
    intro p hp q hq hx g o s e
    have hg := (h2.new p hp hx g o s e).1
    by_cases hq0 : q.xs = []
    · exact .inl hq0
    · refine .inr (fun o2 s2 e2 => ?_)
      have := mem.own_lt (h.o q hq) hq0 g o2 s2 e2
      omega
/-- a row that may grow, put to what holds -/
theorem memPut {W wx : World} {bs : List (Nat × Obj)} {rs : List (Option Addr × List Value)} {os : List Mine} {T : TypeId} {a : Option Addr} {xs : List Value} (h : Mem W bs rs os wx) (ho : OwnV T wx a xs) (hn : xs ≠ [] → ∀ g o s, a = some ⟨g, o, s⟩ → W.heap.size ≤ g ∧ (∀ q ∈ bs, q.1 ≠ g) ∧ (∀ q ∈ rs, Off q.1 q.2 g) ∧ ∀ q ∈ os, Off q.a q.xs g) : Mem W bs rs (⟨T, a, xs⟩ :: os) wx := by
  refine ⟨h.below, h.b, h.r, ?_, ?_, List.pairwise_cons.2 ⟨?_, h.apart⟩⟩
  · intro p hp
    rcases List.mem_cons.1 hp with rfl | hp
    · exact ho
    · exact h.o p hp
  · intro p hp hx g o s e
    rcases List.mem_cons.1 hp with rfl | hp
    · exact ⟨(hn hx g o s e).1, (hn hx g o s e).2.1, (hn hx g o s e).2.2.1⟩
    · exact h.new p hp hx g o s e
  · intro q hq hx g o s e
    exact (hn hx g o s e).2.2.2 q hq
theorem row_keep {W W' : World} {T B n size : Nat} {v : Value} {xs : List Value} {r : Option Nat} (h : W.ownsRow B T size v n xs) (hg : W.grownBy W' r) (hr : ∀ g, v.ownBlock = some g → r ≠ some g) : W'.ownsRow B T size v n xs := by
  refine h.kept hg ?_
  cases hb : v.ownBlock with
  | none => exact .inl rfl
  | some g => exact .inr (fun e => hr g hb e.symm)
theorem cap_of {w : World} {base e n size : Nat} {a : Option Addr} {m c : Nat} {xs : List Value} (h : w.ownsRow base e size (.slice a m c) n xs) : m = n ∧ n ≤ c := by
  obtain ⟨h1, h2⟩ := h
  rcases h2 with ⟨e, h0⟩ | ⟨g, cap, cur, e, _, _, h3, _⟩
  · simp at e
    exact ⟨by omega, by omega⟩
  · simp at e
    obtain ⟨_, rfl, rfl⟩ := e
    exact ⟨rfl, h3⟩
theorem own_v {w : World} {T base size n c : Nat} {a : Option Addr} {xs : List Value} (h : w.ownsRow base T size (.slice a n c) n xs) : OwnV T w a xs ∧ ∀ b o s, a = some ⟨b, o, s⟩ → base ≤ b ∧ b < w.heap.size ∧ (Value.slice a n c).ownBlock = some b := by
  obtain ⟨a', c', e, h1, h2⟩ := mem.own_of h
  cases e
  refine ⟨h1, fun b o s e => ?_⟩
  subst e
  have hb : (Value.slice (some ⟨b, o, s⟩) n c).ownBlock = some b := rfl
  exact ⟨h2 b o s rfl, (h.lt b hb).2, hb⟩
theorem appN (W : World) (base : Nat) (v : Value) (k : Nat) (acc : List Nd) (d : Nd) (hn : acc.length = k) (hown : W.ownsRow base 59 4 v k (ncs acc)) (hb : base ≤ W.heap.size) (hl : k ≤ 1048576) :
    ∃ g c w2, (appSem #[23, 23] 23 #[v, .slice (some ⟨W.heap.size, 0, none⟩) 1 1]).run Try.prog (W.alloc (.cells #[.string d.1, .bool d.2.1, .int .i64 d.2.2.1, .slice d.2.2.2.1 d.2.2.2.2.2.length d.2.2.2.2.1] 59)) = .ok (.slice (some ⟨g, 0, none⟩) (k + 1) c) w2 ∧ w2.ownsRow base 59 4 (.slice (some ⟨g, 0, none⟩) (k + 1) c) (k + 1) (ncs (acc ++ [d])) ∧ (W.alloc (.cells #[.string d.1, .bool d.2.1, .int .i64 d.2.2.1, .slice d.2.2.2.1 d.2.2.2.2.2.length d.2.2.2.2.1] 59)).grownBy w2 v.ownBlock := by
  obtain ⟨g, c, w2, h1, h2, h3⟩ := app1 (W := W) (base := base) (S := 23) (T := 59) (size := 4) (bytes := 56) Try.underlying23 infoN rfl (by decide) v k (ncs acc) [.string d.1, .bool d.2.1, .int .i64 d.2.2.1, .slice d.2.2.2.1 d.2.2.2.2.2.length d.2.2.2.2.1] rfl (by intro u hu; simp at hu; rcases hu with rfl | rfl | rfl | rfl <;> rfl) hown hb hl (by decide)
  exact ⟨g, c, w2, h1, by rw [ncs_snoc]; exact h2, h3⟩
theorem appK (W : World) (base : Nat) (v : Value) (k : Nat) (acc : Tx) (t : ByteArray) (hn : acc.length = k) (hown : W.ownsRow base 9 1 v k (tx acc)) (hb : base ≤ W.heap.size) (hl : k ≤ 1048576) :
    ∃ g c w2, (appSem #[57, 57] 57 #[v, .slice (some ⟨W.heap.size, 0, none⟩) 1 1]).run Try.prog (W.alloc (.cells #[.string t] 9)) = .ok (.slice (some ⟨g, 0, none⟩) (k + 1) c) w2 ∧ w2.ownsRow base 9 1 (.slice (some ⟨g, 0, none⟩) (k + 1) c) (k + 1) (tx (acc ++ [t])) ∧ (W.alloc (.cells #[.string t] 9)).grownBy w2 v.ownBlock := by
  obtain ⟨g, c, w2, h1, h2, h3⟩ := app1 (W := W) (base := base) (S := 57) (T := 9) (size := 1) (bytes := 16) Try.underlying57 strs.infoS rfl (by decide) v k (tx acc) [.string t] rfl (by intro u hu; simp at hu; subst hu; rfl) hown hb hl (by decide)
  exact ⟨g, c, w2, h1, by rw [tx_app]; exact h2, h3⟩
theorem mines_app (A B : List Nd) : mines (A ++ B) = mines A ++ mines B := by simp [mines]
theorem mines_one (d : Nd) : mines [d] = [⟨9, d.2.2.2.1, tx d.2.2.2.2.2⟩] := rfl
theorem memPerm {W wx : World} {bs : List (Nat × Obj)} {rs : List (Option Addr × List Value)} {os os' : List Mine} (h : Mem W bs rs os wx) (hp : os.Perm os') : Mem W bs rs os' wx :=
  ⟨h.below, h.b, h.r, fun p q => h.o p (hp.mem_iff.2 q), fun p q => h.new p (hp.mem_iff.2 q), (hp.pairwise_iff (fun {x y} q => mem.off_sym q)).1 h.apart⟩
theorem empty_row (w : World) (T : TypeId) (size base : Nat) (hb : base ≤ w.heap.size) : World.ownsRow (w.alloc (.cells #[] T)) base T size (.slice (some ⟨w.heap.size, 0, none⟩) 0 0) 0 [] :=
  ⟨by simp, .inr ⟨w.heap.size, 0, #[], rfl, hb, blk_new w _ _ rfl, Nat.le_refl _, by unfold maxLen; omega, by simp, by simp⟩⟩
/-- rows of unlike types lie apart -/
theorem off_type {w : World} {T T' B size n : Nat} {a : Option Addr} {v : Value} {xs ys : List Value} (h : OwnV T w a xs) (hr : w.ownsRow B T' size v n ys) (hT : T ≠ T') : ∀ g, v.ownBlock = some g → Off a xs g := by
  intro g hg
  rcases h with h | ⟨b, rfl, ex, hb⟩
  · exact .inl h
  · refine .inr (fun o s e => ?_)
    cases e
    obtain ⟨_, h2⟩ := hr
    rcases h2 with ⟨rfl, _⟩ | ⟨g', cap, cur, rfl, _, hc, _⟩
    · cases hg
    · have e : g' = g := by
        have : (Value.slice (some ⟨g', 0, none⟩) n cap).ownBlock = some g' := rfl
        rw [this] at hg
        exact Option.some.inj hg
      subst e
      rw [hc] at hb
      simp at hb
      exact hT hb.2.symm
theorem types : (9 : Nat) ≠ 59 := by decide
/-- rows of nodes that are read, of our own -/
structure Rn (w : World) (bs : List (Nat × Obj)) (acc : List Nd) (a : Option Addr) (c : Nat) (B : Nat) (W : World) : Prop where
  mem : Mem w bs [] (mines acc) W
  lo : w.heap.size ≤ B
  row : W.ownsRow B 59 4 (.slice a acc.length c) acc.length (ncs acc)
  vars : ∀ p ∈ bs, p.1 < B
theorem mines_t {acc : List Nd} {p : Mine} (h : p ∈ mines acc) : p.t = 9 := by
  obtain ⟨d, _, rfl⟩ := List.mem_map.1 h
  rfl
theorem Rn.off {w W : World} {bs : List (Nat × Obj)} {acc : List Nd} {a : Option Addr} {c B : Nat} (h : Rn w bs acc a c B W) : ∀ p ∈ mines acc, ∀ g, (Value.slice a acc.length c).ownBlock = some g → Off p.a p.xs g :=
  fun p hp => off_type (h.mem.o p hp) h.row (by rw [mines_t hp]; exact types)
theorem Rn.grow {w W W' : World} {bs : List (Nat × Obj)} {acc : List Nd} {a : Option Addr} {c B : Nat} {r : Option Nat} (h : Rn w bs acc a c B W) (hg : W.grownBy W' r) (hr : ∀ b, r = some b → w.heap.size ≤ b ∧ (∀ p ∈ bs, p.1 ≠ b) ∧ (∀ p ∈ mines acc, Off p.a p.xs b) ∧ (Value.slice a acc.length c).ownBlock ≠ some b) : Rn w bs acc a c B W' :=
  ⟨memGrow h.mem hg (fun b e => ⟨(hr b e).1, (hr b e).2.1, by simp, (hr b e).2.2.1⟩), h.lo, row_keep h.row hg (fun g hg2 e => (hr g e).2.2.2 hg2), h.vars⟩
theorem Rn.next {w W W' : World} {bs : List (Nat × Obj)} {acc : List Nd} {a : Option Addr} {c B : Nat} (h : Rn w bs acc a c B W) (hb : Below W.heap.size W W') : Rn w bs acc a c B W' := h.grow (below_grew hb none) (fun b e => by cases e)
theorem Rn.turn {w W W' : World} {z : Nat} {o o' : Obj} {acc : List Nd} {a : Option Addr} {c B : Nat} (h : Rn w [(z, o)] acc a c B W) (hg : W.grownBy W' (some z)) (hat : W'.heap[z]? = some o') (hz : w.heap.size ≤ z) : Rn w [(z, o')] acc a c B W' :=
  ⟨memTurn h.mem hg hat hz (by simp) (by simp), h.lo, row_keep h.row hg (fun g hg2 e => by
    cases e
    have h1 := (h.row.lt z hg2).1
    have h2 := h.vars (z, o) (.head _)
    simp only at h2
    omega), fun p hp => by
      simp at hp
      subst hp
      exact h.vars (z, o) (.head _)⟩
/-- a place that is new is none of what holds -/
def Fresh (w : World) (bs : List (Nat × Obj)) (acc : List Nd) (a : Option Addr) (c X : Nat) : Prop := w.heap.size ≤ X ∧ (∀ p ∈ bs, p.1 ≠ X) ∧ (∀ p ∈ mines acc, Off p.a p.xs X) ∧ (Value.slice a acc.length c).ownBlock ≠ some X
theorem Rn.fresh {w W : World} {bs : List (Nat × Obj)} {acc : List Nd} {a : Option Addr} {c B : Nat} (h : Rn w bs acc a c B W) (X : Nat) (hX : W.heap.size ≤ X) : Fresh w bs acc a c X := by
  refine ⟨Nat.le_trans h.mem.below.size hX, fun p hp e => ?_, fun p hp => ?_, fun e => ?_⟩
  · have := (Array.getElem?_eq_some_iff.1 (h.mem.b p hp)).1
    omega
  · by_cases hx : p.xs = []
    · exact .inl hx
    · refine .inr (fun o s e => ?_)
      have := mem.own_lt (h.mem.o p hp) hx X o s e
      omega
  · have := (h.row.lt X e).2
    omega
/-- one more node, whose keys lie in a row of their own -/
theorem Rn.push {w W W2 : World} {bs : List (Nat × Obj)} {acc : List Nd} {a : Option Addr} {c B X g' c' : Nat} {d : Nd} {o : Obj} (h : Rn w bs acc a c B W) (hk : W.ownsRow (X + 1) 9 1 (.slice d.2.2.2.1 d.2.2.2.2.2.length d.2.2.2.2.1) d.2.2.2.2.2.length (tx d.2.2.2.2.2)) (hlo : w.heap.size ≤ X) (hF : ∀ b, X < b → Fresh w bs acc a c b)
    (hown : W2.ownsRow B 59 4 (.slice (some ⟨g', 0, none⟩) (acc.length + 1) c') (acc.length + 1) (ncs (acc ++ [d]))) (hg : (W.alloc o).grownBy W2 (Value.slice a acc.length c).ownBlock) :
    Rn w bs (acc ++ [d]) (some ⟨g', 0, none⟩) c' B W2 := by
  obtain ⟨hko, hkb⟩ := own_v hk
  have hdoff := off_type hko h.row types
  have m1 : Mem w bs [] (⟨9, d.2.2.2.1, tx d.2.2.2.2.2⟩ :: mines acc) W := memPut h.mem hko (fun hx g o s e => by
    have hb := hkb g o s e
    obtain ⟨_, f1, f2, _⟩ := hF g (by omega)
    exact ⟨by omega, f1, by simp, f2⟩)
  have m2 := (m1.next (below_alloc1 W o))
  have m3 : Mem w bs [] (⟨9, d.2.2.2.1, tx d.2.2.2.2.2⟩ :: mines acc) W2 := memGrow m2 hg (fun b e => by
    have hb := (h.row.lt b e).1
    refine ⟨Nat.le_trans h.lo hb, fun p hp e2 => ?_, by simp, fun p hp => ?_⟩
    · have := h.vars p hp
      omega
    · rcases List.mem_cons.1 hp with rfl | hp
      · exact hdoff b e
      · exact h.off p hp b e)
  have hlen : (acc ++ [d]).length = acc.length + 1 := by simp
  exact ⟨memPerm m3 (by rw [mines_app, mines_one]; exact (List.perm_append_singleton _ _).symm), h.lo, by rw [hlen]; exact hown, h.vars⟩
/-- all of it, handed back -/
theorem Rn.done {w W : World} {bs : List (Nat × Obj)} {acc : List Nd} {a : Option Addr} {c B : Nat} (h : Rn w bs acc a c B W) : Mem w [] [] (⟨59, a, ncs acc⟩ :: mines acc) W := by
  obtain ⟨ho, hb⟩ := own_v h.row
  have m : Mem w [] [] (mines acc) W := ⟨h.mem.below, by simp, by simp, h.mem.o, fun p hp hx g o s e => ⟨(h.mem.new p hp hx g o s e).1, by simp, by simp⟩, h.mem.apart⟩
  exact memPut m ho (fun hx g o s e => ⟨Nat.le_trans h.lo (hb g o s e).1, by simp, by simp, fun p hp => h.off p hp g (hb g o s e).2.2⟩)
end Go.Proofs.Ytmmmadehifajlaa.nod
