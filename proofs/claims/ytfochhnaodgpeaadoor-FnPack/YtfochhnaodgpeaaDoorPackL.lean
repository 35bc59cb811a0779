/-
  What spec.l07Pack, PackRight and PackBytes answer and leave. Conditions: at most 1,048,576 blobs, which lie in memory.
-/
import Derived.Test.YtfochhnaodgpeaaDoorPackS
import Derived.Lib.AppendStr
namespace Go.Proofs.YtfochhnaodgpeaaDoor.pack
open Go.RowKit Go.Joins
open Go.Proofs.YtfochhnaodgpeaaDoor.base Go.Proofs.YtfochhnaodgpeaaDoor.blk Go.Proofs.YtfochhnaodgpeaaDoor.aid
open Go.Proofs.YtfochhnaodgpeaaDoor.row (bl en Rd Own OwnV appSem app_fold app1)
open Go.Proofs.YtfochhnaodgpeaaDoor.strs (strV RdT OwnT)
set_option linter.unusedVariables false
attribute [local go_sem ↓] app_fold

def PkPost (w : World) (l : List (Int × ByteArray)) (e : Ending) (w' : World) : Prop :=
  ∃ t, e = .returned (.tuple #[.string t, .bool (packR l)]) ∧ (packR l = true → t = ⟨(recsL l).toArray⟩) ∧ Below w.heap.size w w'
theorem PkPost.no {w w' : World} {l : List (Int × ByteArray)} {t : ByteArray} (h : packR l = false) (hb : Below w.heap.size w w') : PkPost w l (.returned (.tuple #[.string t, .bool false])) w' := by
  refine ⟨t, by rw [h], fun e => ?_, hb⟩
  rw [h] at e
  cases e

theorem infoS : (Tryd.prog.info? 9).map (fun i => (i.zero, i.size, i.bytes)) = some (some (.string ⟨#[]⟩), 1, 16) := by kernel_rfl
theorem info8 : (Tryd.prog.info? 5).map (fun i => (i.zero, i.size, i.bytes)) = some (some (.int .u8 0), 1, 1) := by kernel_rfl
theorem appK (W : World) (base : Nat) (v : Value) (n : Nat) (acc : List ByteArray) (t : ByteArray) (hn : acc.length = n) (hown : W.ownsRow base 9 1 v n (acc.map strV)) (hb : base ≤ W.heap.size) (hl : n ≤ 1048576) :
    ∃ g c w2, (appSem #[102, 102] 102 #[v, .slice (some ⟨W.heap.size, 0, none⟩) 1 1]).run Tryd.prog (W.alloc (.cells #[.string t] 9)) = .ok (.slice (some ⟨g, 0, none⟩) (n + 1) c) w2 ∧ w2.ownsRow base 9 1 (.slice (some ⟨g, 0, none⟩) (n + 1) c) (n + 1) ((acc ++ [t]).map strV) ∧ (W.alloc (.cells #[.string t] 9)).grownBy w2 v.ownBlock := by
  obtain ⟨g, c, w2, h1, h2, h3⟩ := app1 (W := W) (base := base) (S := 102) (T := 9) (size := 1) (bytes := 16) Tryd.underlying102 infoS rfl (by decide) v n (acc.map strV) [.string t] rfl (by intro u hu; simp at hu; subst hu; rfl) hown hb hl (by decide)
  exact ⟨g, c, w2, h1, by rw [List.map_append]; exact h2, h3⟩
theorem strCells_eq (s : ByteArray) : Lib.strCells s = s.data.toList.map byteV := rfl
theorem appR (W : World) (base : Nat) (v : Value) (n : Nat) (acc : List UInt8) (r : ByteArray) (hn : acc.length = n) (hown : W.ownsRow base 5 1 v n (acc.map byteV)) (hb : base ≤ W.heap.size) (hl : n ≤ 1048576) (hr : r.size ≤ 1048576) (h0 : 0 < r.size) :
    ∃ g c w2, (appSem #[22, 9] 22 #[v, .string r]).run Tryd.prog W = .ok (.slice (some ⟨g, 0, none⟩) (n + r.size) c) w2 ∧ w2.ownsRow base 5 1 (.slice (some ⟨g, 0, none⟩) (n + r.size) c) (n + r.size) ((acc ++ r.data.toList).map byteV) ∧ W.grownBy w2 v.ownBlock := by
  obtain ⟨i0, hi, hz0, hz1, hz2⟩ := info_parts info8
  obtain ⟨v', w2, h1, h2, h3, _⟩ := Lib.run_append_own_string (P := Tryd.prog) W base 22 9 22 5 i0 Tryd.underlying22 Tryd.underlying9 hi hz0 hz1 hz2 v n (acc.map byteV) hown r (by unfold maxLen; omega) (by omega) hb
  obtain ⟨g, c, rfl⟩ := row.ownsRow_form h2 (by omega)
  exact ⟨g, c, w2, h1, by rw [List.map_append, ← strCells_eq]; exact h2, h3⟩

/-- between two rounds of l07Pack -/
structure Lp (w : World) (l : List (Int × ByteArray)) (k : Nat) (v4 v5 : Value) (W : World) : Prop where
  below : Below w.heap.size w W
  right : ∀ b ∈ l.take k, bRight b = true
  nodup : ((l.take k).map bKey).Nodup
  bytes : W.ownsRow w.heap.size 5 1 v4 (recsL (l.take k)).length ((recsL (l.take k)).map byteV)
  keys : W.ownsRow w.heap.size 9 1 v5 k (((l.take k).map bKey).map strV)

theorem row_next {w W W' : World} {T n : Nat} {v : Value} {xs : List Value} (h : W.ownsRow w.heap.size T 1 v n xs) (h1 : Below W.heap.size W W') : W'.ownsRow w.heap.size T 1 v n xs :=
  h.kept (row := none) ⟨h1.os, h1.tape, h1.output, h1.size, fun k hk _ => h1.block k hk⟩ (by
    by_cases hne : v.ownBlock = none
    · exact .inl hne
    · exact .inr hne)
theorem two_rows {W : World} {B B' T T' n n' : Nat} {v v' : Value} {xs xs' : List Value} (h : W.ownsRow B T 1 v n xs) (h' : W.ownsRow B' T' 1 v' n' xs') (hT : T ≠ T') : v.ownBlock = none ∨ v.ownBlock ≠ v'.ownBlock := by
  obtain ⟨_, h2⟩ := h
  rcases h2 with ⟨rfl, _⟩ | ⟨g, cap, cur, rfl, _, hb, _⟩
  · exact .inl rfl
  · refine .inr (fun e => ?_)
    obtain ⟨_, h3⟩ := h'
    rcases h3 with ⟨rfl, _⟩ | ⟨g', cap', cur', rfl, _, hb', _⟩
    · cases e
    · obtain rfl : g = g' := by simpa [Value.ownBlock] using e
      rw [hb] at hb'
      simp at hb'
      exact hT hb'.2
theorem Lp.next {w W W' : World} {l : List (Int × ByteArray)} {k : Nat} {v4 v5 : Value} (h : Lp w l k v4 v5 W) (hb : Below W.heap.size W W') : Lp w l k v4 v5 W' :=
  ⟨h.below.trans (hb.mono h.below.size), h.right, h.nodup, row_next h.bytes hb, row_next h.keys hb⟩
/-- .. when the key stands there, the record not yet -/
structure Lk (w : World) (l : List (Int × ByteArray)) (k : Nat) (ky : ByteArray) (v4 v5 : Value) (W : World) : Prop where
  below : Below w.heap.size w W
  bytes : W.ownsRow w.heap.size 5 1 v4 (recsL (l.take k)).length ((recsL (l.take k)).map byteV)
  keys : W.ownsRow w.heap.size 9 1 v5 (k + 1) (((l.take k).map bKey ++ [ky]).map strV)
theorem Lk.next {w W W' : World} {l : List (Int × ByteArray)} {k : Nat} {ky : ByteArray} {v4 v5 : Value} (h : Lk w l k ky v4 v5 W) (hb : Below W.heap.size W W') : Lk w l k ky v4 v5 W' :=
  ⟨h.below.trans (hb.mono h.below.size), row_next h.bytes hb, row_next h.keys hb⟩
theorem Lp.key {w W : World} {l : List (Int × ByteArray)} {k : Nat} {v4 v5 : Value} (h : Lp w l k v4 v5 W) (ky : ByteArray) (hk : k ≤ 1048576) (hkl : k ≤ l.length) :
    ∃ g c w2, (appSem #[102, 102] 102 #[v5, .slice (some ⟨W.heap.size, 0, none⟩) 1 1]).run Tryd.prog (W.alloc (.cells #[.string ky] 9)) = .ok (.slice (some ⟨g, 0, none⟩) (k + 1) c) w2 ∧ Lk w l k ky v4 (.slice (some ⟨g, 0, none⟩) (k + 1) c) w2 := by
  obtain ⟨g, c, w2, h1, h2, h3⟩ := appK W w.heap.size v5 k ((l.take k).map bKey) ky (by simp; omega) h.keys h.below.size hk
  refine ⟨g, c, w2, h1, ?_, ?_, h2⟩
  · exact (h.below.alloc h.below.size _).grown h3 (by have := h.below.size; simp; omega) (fun x hx => (h.keys.lt x hx).1)
  · exact (h.bytes.alloc _).kept h3 (two_rows (h.bytes.alloc (.cells #[.string ky] 9)) (h.keys.alloc (.cells #[.string ky] 9)) (by decide))
theorem Lk.put {w W : World} {l : List (Int × ByteArray)} {k : Nat} {b : Int × ByteArray} {v4 v5 : Value} (h : Lk w l k (bKey b) v4 v5 W) (hx : l[k]? = some b) (hr : bRight b = true) (hin : bKey b ∉ (l.take k).map bKey) (hall : ∀ b ∈ l.take k, bRight b = true) (hnd : ((l.take k).map bKey).Nodup) (hk : k ≤ 40) :
    ∃ g c w2, (appSem #[22, 9] 22 #[v4, .string (recd b)]).run Tryd.prog W = .ok (.slice (some ⟨g, 0, none⟩) ((recsL (l.take k)).length + (recd b).size) c) w2 ∧ (recsL (l.take (k + 1))).length = (recsL (l.take k)).length + (recd b).size ∧ Lp w l (k + 1) (.slice (some ⟨g, 0, none⟩) ((recsL (l.take k)).length + (recd b).size) c) v5 w2 := by
  have hz := recd_bd hr
  have hlen := (recsL_len (l.take k) hall).1
  have hkl : (l.take k).length ≤ 40 := by simp; omega
  have ht : l.take (k + 1) = l.take k ++ [b] := by rw [List.take_add_one, hx]; rfl
  have hrl := recL_len b
  obtain ⟨g, c, w2, h1, h2, h3⟩ := appR W w.heap.size v4 (recsL (l.take k)).length (recsL (l.take k)) (recd b) rfl h.bytes h.below.size (by omega) (by omega) (by omega)
  have hL : (recsL (l.take (k + 1))).length = (recsL (l.take k)).length + (recd b).size := by rw [ht, recsL_snoc, List.length_append, hrl]
  refine ⟨g, c, w2, h1, hL, ?_, ?_, ?_, ?_, ?_⟩
  · exact h.below.grown h3 h.below.size (fun x hx => (h.bytes.lt x hx).1)
  · intro x hx'
    rw [ht] at hx'
    rcases List.mem_append.1 hx' with h' | h'
    · exact hall x h'
    · simp at h'; subst h'; exact hr
  · rw [ht, List.map_append, List.nodup_append]
    refine ⟨hnd, by simp, ?_⟩
    intro x hx1 y hy e
    simp at hy
    subst hy e
    exact hin hx1
  · rw [hL, ht, recsL_snoc]
    exact h2
  · rw [ht, List.map_append]
    exact h.keys.kept h3 (two_rows h.keys h.bytes (by decide))
theorem pack_bad {l : List (Int × ByteArray)} {k : Nat} {b : Int × ByteArray} (hx : l[k]? = some b) (hr : bRight b = false) : packR l = false :=
  decide_eq_false (fun h => by have := h.2.2.1 b (List.mem_of_getElem? hx); rw [hr] at this; cases this)
theorem pack_dup {l : List (Int × ByteArray)} {k : Nat} {b : Int × ByteArray} (hx : l[k]? = some b) (hin : bKey b ∈ (l.take k).map bKey) : packR l = false :=
  decide_eq_false (fun h => by
    have hn := h.2.2.2.1
    have hs : l = l.take k ++ b :: l.drop (k + 1) := by
      have hlt := (List.getElem?_eq_some_iff.1 hx).1
      have hb := (List.getElem?_eq_some_iff.1 hx).2
      have hd : l.drop k = b :: l.drop (k + 1) := by rw [List.drop_eq_getElem_cons hlt, hb]
      rw [← hd, List.take_append_drop]
    rw [hs, List.map_append, List.map_cons, List.nodup_append] at hn
    exact hn.2.2 _ hin _ (List.mem_cons_self ..) rfl)

set_option maxRecDepth 100000 in
set_option maxHeartbeats 2000000 in
theorem pack_any (a : Option Addr) (c : Nat) (l : List (Int × ByteArray)) (w : World) (hl : l.length ≤ 1048576) (hr : Rd w a (bl l)) :
    Calls Tryd.prog 47 #[.slice a l.length c] w (PkPost w l) := by
  by_cases h0 : l.length < 1
  · have E : packR l = false := decide_eq_false (fun h => by omega)
    have h0i : (l.length : Int) < 1 := by omega
    go_enter Tryd.func47, Tryd.ntmps47
    go_wp2
    exact bodyPost_ret (v := .tuple #[.string ⟨#[]⟩, .bool false]) (by simp [results, Tryd.results47, go_sem]) rfl (PkPost.no E (Below.refl _ _))
  · by_cases h40 : 40 < l.length
    · have E : packR l = false := decide_eq_false (fun h => by omega)
      have h0i : (1 : Int) ≤ (l.length : Int) := by omega
      have h4i : (40 : Int) < (l.length : Int) := by omega
      go_enter Tryd.func47, Tryd.ntmps47
      go_wp2
      exact bodyPost_ret (v := .tuple #[.string ⟨#[]⟩, .bool false]) (by simp [results, Tryd.results47, go_sem]) rfl (PkPost.no E (Below.refl _ _))
    · have h0i : (1 : Int) ≤ (l.length : Int) := by omega
      have h4i : (l.length : Int) ≤ 40 := by omega
      go_enter Tryd.func47, Tryd.ntmps47
      go_wp2_with fail
      go_loopw [4, 5, 6] (fun v4 v5 i wr => ∃ k : Nat, k ≤ l.length ∧ i = .int .i64 k ∧ (∃ g4 n4 c4, v4 = .slice (some ⟨g4, 0, none⟩) n4 c4 ∧ n4 = (recsL (l.take k)).length) ∧ (∃ g5 c5, v5 = .slice (some ⟨g5, 0, none⟩) k c5) ∧ Hid (Lp w l k v4 v5 wr))
        (fun _ _ i _ => l.length - (intOf i).toNat)
      case atStart =>
        exact ⟨0, Nat.zero_le _, rfl, ⟨w.heap.size, 0, 0, rfl, by simp [recsL]⟩, ⟨w.heap.size + 1, 0, rfl⟩, mkHid ⟨(below_alloc1 w _).alloc (by simp) _, by simp, by simp,
          (World.ownsRow_made (base := w.heap.size) (size := 1) w #[] 0 (Nat.le_refl _) (by decide) rfl).alloc _, by
            have h := World.ownsRow_made (base := w.heap.size) (size := 1) (e := 9) (w.alloc (.cells #[] 5)) #[] 0 (by simp) (by decide) rfl
            simpa using h⟩⟩
      case round =>
        obtain ⟨k, hk, rfl, ⟨g4, n4, c4, rfl, hn4⟩, ⟨g5, c5, rfl⟩, hL⟩ := hrel
        subst hn4
        by_cases hlt : k < l.length
        · have hlti : (k : Int) < (l.length : Int) := by omega
          obtain ⟨⟨bk, bt⟩, hx⟩ : ∃ z, l[k]? = some z := ⟨_, List.getElem?_eq_getElem hlt⟩
          obtain ⟨g1, o1, rfl, c1, c2, l1⟩ := hr.blob hx
          have HC := mkHid (fun (X : World) (hb : Below w.heap.size w X) => And.intro ((hb.cell (p := ⟨g1, o1 + k * 2, none⟩) l1).trans c1) ((hb.cell (p := ⟨g1, o1 + k * 2 + 1, none⟩) l1).trans c2))
          obtain ⟨e1, e2⟩ := HC.out wr hL.out.below
          have HR := mkHid (fun wx => right_spec bk bt wx)
          have HX := mkHid hx
          clear c1 c2 hx hr
          go_wp2_with fail
          refine (HR.out _).mono ?_
          rintro e w1 ⟨rfl, hb1⟩
          have L1 := mkHid (hL.out.next hb1)
          clear hb1 hL HR e1 e2
          cases hR : bRight (bk, bt)
          · have E := mkHid (pack_bad HX.out hR)
            go_wp2
            exact bodyPost_ret (v := .tuple #[.string ⟨#[]⟩, .bool false]) (by simp [results, Tryd.results47, go_sem]) rfl (PkPost.no E.out L1.out.below)
          · have HK := mkHid (fun wx => key_spec bk bt wx)
            obtain ⟨e1, e2⟩ := HC.out w1 L1.out.below
            go_wp2_with fail
            refine (HK.out _).mono ?_
            rintro e w2 ⟨rfl, hb2⟩
            have L2 := mkHid (L1.out.next hb2)
            clear hb2 L1 HK e1 e2
            have hkl : ((l.take k).map bKey).length = k := by simp; omega
            have HI : Hid (∀ bb, (bb = true ↔ bKey (bk, bt) ∈ (l.take k).map bKey) → Calls Tryd.prog 69 #[.slice (some ⟨g5, 0, none⟩) k c5, .string (bKey (bk, bt))] w2 fun e w' => e = .returned (.bool bb) ∧ Below w2.heap.size w2 w') := mkHid (fun bb hbb => by
              have h := in_any (some ⟨g5, 0, none⟩) c5 ((l.take k).map bKey) (bKey (bk, bt)) w2 (by omega) (OwnT.owns (n := k) (c := c5) L2.out.keys).rd bb hbb
              rw [hkl] at h
              exact h)
            by_cases hin : bKey (bk, bt) ∈ (l.take k).map bKey
            · have E := mkHid (pack_dup HX.out hin)
              have HII := mkHid (HI.out true ⟨fun _ => hin, fun _ => rfl⟩)
              clear HI hkl hin
              go_wp2_with fail
              refine HII.out.mono ?_
              rintro e w3 ⟨rfl, hb3⟩
              have B3 := mkHid (L2.out.next hb3).below
              go_wp2
              exact bodyPost_ret (v := .tuple #[.string ⟨#[]⟩, .bool false]) (by simp [results, Tryd.results47, go_sem]) rfl (PkPost.no E.out B3.out)
            · have HII := mkHid (HI.out false ⟨fun h => (by cases h), fun h => absurd h hin⟩)
              have HN := mkHid hin
              clear HI hkl hin
              go_wp2_with fail
              refine HII.out.mono ?_
              rintro e w3 ⟨rfl, hb3⟩
              have L3 := mkHid (L2.out.next hb3)
              clear hb3 L2 HII
              obtain ⟨g, cc, w4, hrun, L4⟩ := L3.out.key (bKey (bk, bt)) (by omega) hk
              obtain ⟨e1, e2⟩ := HC.out w4 L4.below
              have L4' := mkHid L4
              have HRec := mkHid (fun wx => record_any bk bt wx hR)
              have HA := mkHid (And.intro L3.out.right L3.out.nodup)
              clear L3 L4
              go_wp2_with fail
              refine (HRec.out _).mono ?_
              rintro e w5 ⟨rfl, hb5⟩
              obtain ⟨g6, c6, w6, hrun6, hlen6, L6⟩ := (L4'.out.next hb5).put HX.out hR HN.out HA.out.1 HA.out.2 (by omega)
              have N1 := mkHid L6
              clear hb5 L4' HRec HA HN HX L6 hR HC e1 e2 hrun
              go_wp2
              exact ⟨⟨k + 1, by omega, by go_num, ⟨g6, _, c6, rfl, hlen6.symm⟩, ⟨g, cc, rfl⟩, N1⟩, by simp [intOf]; omega⟩
        · obtain rfl : k = l.length := by omega
          have ht : l.take l.length = l := List.take_of_length_le (Nat.le_refl _)
          have HL : Hid (Below w.heap.size w wr ∧ packR l = decide ((recsL l).length ≤ 12000)) := mkHid ⟨hL.out.below, by
            have h1 := hL.out.right
            have h2 := hL.out.nodup
            rw [ht] at h1 h2
            unfold packR
            by_cases h3 : (recsL l).length ≤ 12000
            · rw [decide_eq_true h3]
              exact decide_eq_true ⟨by omega, by omega, h1, h2, h3⟩
            · rw [decide_eq_false h3]
              exact decide_eq_false (fun h => h3 h.2.2.2.2)⟩
          have hrow := hL.out.bytes
          rw [ht] at hrow ⊢
          have hlen := (recsL_len l (by have h1 := hL.out.right; rw [ht] at h1; exact h1))
          have hz0 : 0 < (recsL l).length := by omega
          have hz1 : ((recsL l).length : Int) ≤ 1048576 := by omega
          obtain ⟨g', cap', hv, hconv⟩ := owns_string (P := Tryd.prog) (src := 22) (dst := 9) Tryd.underlying22 Tryd.underlying5 Tryd.underlying9 hrow hz0
          simp at hv
          obtain ⟨rfl, rfl⟩ := hv
          clear hL hrow hlen hr
          have HE : Hid (packR l = decide (((recsL l).length : Int) ≤ 12000)) := mkHid (by rw [HL.out.2]; congr 1; exact propext ⟨fun h => by omega, fun h => by omega⟩)
          go_wp2
          exact bodyPost_ret (v := .tuple #[.string ⟨(recsL l).toArray⟩, .bool (decide (((recsL l).length : Int) ≤ 12000))]) (by simp [results, Tryd.results47, go_sem]) rfl ⟨_, by rw [HE.out], fun _ => rfl, HL.out.1⟩
end Go.Proofs.YtfochhnaodgpeaaDoor.pack
