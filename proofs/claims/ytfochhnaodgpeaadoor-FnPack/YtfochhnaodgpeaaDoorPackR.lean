/-
  What spec.PackRight and spec.PackBytes answer and leave; what laws.szBlobS and laws.toBlobS answer and leave. Conditions: at most 1,048,576 blobs, which lie in memory.
-/
import Derived.Test.YtfochhnaodgpeaaDoorPackL
import Derived.Test.YtfochhnaodgpeaaDoorLwBlob
import Derived.Test.YtfochhnaodgpeaaDoorRdBl
import Derived.Test.YtfochhnaodgpeaaDoorMarkS
namespace Go.Proofs.YtfochhnaodgpeaaDoor.pack
open Go.RowKit Go.Joins
open Go.Proofs.YtfochhnaodgpeaaDoor.base Go.Proofs.YtfochhnaodgpeaaDoor.blk Go.Proofs.YtfochhnaodgpeaaDoor.aid
open Go.Proofs.YtfochhnaodgpeaaDoor.row (bl en Rd Own OwnV)
set_option linter.unusedVariables false

set_option maxRecDepth 100000 in
theorem right_spec_pack (a : Option Addr) (c : Nat) (l : List (Int × ByteArray)) (w : World) (hl : l.length ≤ 1048576) (hr : Rd w a (bl l)) :
    Calls Tryd.prog 23 #[.slice a l.length c] w fun e w' => e = .returned (.bool (packR l)) ∧ Below w.heap.size w w' := by
  by_cases h4 : (400 : Int) < (l.length : Int)
  · have E : packR l = false := decide_eq_false (fun h => by omega)
    go_enter Tryd.func23, Tryd.ntmps23
    go_wp2
    go_ret
    exact ⟨ret_eq (by rw [E]; rfl), Below.refl _ _⟩
  · have h4' : (l.length : Int) ≤ 400 := by omega
    have HP := mkHid (pack_any a c l w hl hr)
    unfold PkPost at HP
    clear hr
    go_enter Tryd.func23, Tryd.ntmps23
    go_wp2_with fail
    refine HP.out.mono ?_
    rintro e w1 ⟨t, rfl, _, hb1⟩
    have B1 := mkHid hb1
    clear hb1 HP
    go_wp2
    go_ret
    exact ⟨rfl, B1.out⟩

set_option maxRecDepth 100000 in
theorem bytes_spec (a : Option Addr) (c : Nat) (l : List (Int × ByteArray)) (w : World) (hl : l.length ≤ 1048576) (hr : Rd w a (bl l)) :
    Calls Tryd.prog 12 #[.slice a l.length c] w fun e w' => e = .returned (.string (packB l)) ∧ Below w.heap.size w w' := by
  by_cases h4 : (400 : Int) < (l.length : Int)
  · have E : packB l = ⟨#[]⟩ := (packB_empty l).2 (decide_eq_false (fun h => by omega))
    go_enter Tryd.func12, Tryd.ntmps12
    go_wp2
    go_ret
    exact ⟨ret_eq (by rw [E]; rfl), Below.refl _ _⟩
  · have h4' : (l.length : Int) ≤ 400 := by omega
    have HP := mkHid (pack_any a c l w hl hr)
    unfold PkPost at HP
    clear hr
    cases hp : packR l
    · have E := mkHid ((packB_empty l).2 hp)
      rw [hp] at HP
      go_enter Tryd.func12, Tryd.ntmps12
      go_wp2_with fail
      refine HP.out.mono ?_
      rintro e w1 ⟨t, rfl, _, hb1⟩
      have B1 := mkHid hb1
      clear hb1 HP
      go_wp2
      go_ret
      exact ⟨ret_eq (by rw [E.out]; rfl), B1.out⟩
    · have E := mkHid (show packB l = ⟨(recsL l).toArray⟩ by unfold packB; rw [if_pos hp])
      rw [hp] at HP
      go_enter Tryd.func12, Tryd.ntmps12
      go_wp2_with fail
      refine HP.out.mono ?_
      rintro e w1 ⟨t, rfl, ht, hb1⟩
      have T := mkHid (ht (by trivial))
      have B1 := mkHid hb1
      clear hb1 HP ht
      go_wp2
      go_ret
      exact ⟨ret_eq (by rw [E.out, ← T.out]; rfl), B1.out⟩

/-- what szBlobS leaves of what is left -/
def szL : List (Int × ByteArray) → Int → Int
  | [], m => m
  | b :: r, m => if m < (b.2.size : Int) then -1 else szL r (m - b.2.size)
def szF (l : List (Int × ByteArray)) (m : Int) : Int := if m < (l.length : Int) then -1 else szL l (m - l.length)

set_option maxRecDepth 100000 in
theorem szS_any (a : Option Addr) (c : Nat) (l : List (Int × ByteArray)) (w : World) (hl : (l.length : Int) ≤ 9223372036854775807) (hs : ∀ b ∈ l, (b.2.size : Int) ≤ 9223372036854775807) (hr : Rd w a (bl l)) :
    Calls Tryd.prog 22 #[.slice a l.length c, .int .i64 1048576] w fun e w' => e = .returned (.int .i64 (szF l 1048576)) ∧ Below w.heap.size w w' := by
  by_cases h0 : (1048576 : Int) < (l.length : Int)
  · have E : szF l 1048576 = -1 := by unfold szF; rw [if_pos h0]
    go_enter Tryd.func22, Tryd.ntmps22
    go_wp2
    go_ret
    exact ⟨ret_eq (by rw [E]; rfl), Below.refl _ _⟩
  · have h0' : (l.length : Int) ≤ 1048576 := by omega
    have E0 : Hid (szF l 1048576 = szL l (1048576 - l.length)) := mkHid (by unfold szF; rw [if_neg h0])
    go_enter Tryd.func22, Tryd.ntmps22
    go_wp2_with fail
    go_loopw [1, 5] (fun m i wr => ∃ (k : Nat) (z : Int), k ≤ l.length ∧ i = .int .i64 k ∧ m = .int .i64 z ∧ 0 ≤ z ∧ z ≤ 1048576 ∧ Hid (szL (l.drop k) z = szL l (1048576 - l.length)) ∧ Hid (Below w.heap.size w wr))
      (fun _ i _ => l.length - (intOf i).toNat)
    case atStart => exact ⟨0, 1048576 - l.length, Nat.zero_le _, rfl, rfl, by omega, by omega, mkHid (by simp), mkHid (Below.refl _ _)⟩
    case round =>
      obtain ⟨k, z, hk, rfl, rfl, hz0, hz1, hE, hB⟩ := hrel
      by_cases hlt : k < l.length
      · have hlti : (k : Int) < (l.length : Int) := by omega
        obtain ⟨⟨bk, bt⟩, hx⟩ : ∃ y, l[k]? = some y := ⟨_, List.getElem?_eq_getElem hlt⟩
        obtain ⟨g1, o1, rfl, c1, c2, l1⟩ := hr.blob hx
        have e1 := (hB.out.cell (p := ⟨g1, o1 + k * 2, none⟩) l1).trans c1
        have e2 := (hB.out.cell (p := ⟨g1, o1 + k * 2 + 1, none⟩) l1).trans c2
        have hbt := hs _ (List.mem_of_getElem? hx)
        simp only at hbt
        have hdr : l.drop k = (bk, bt) :: l.drop (k + 1) := by rw [List.drop_eq_getElem_cons hlt, (List.getElem?_eq_some_iff.1 hx).2]
        have HZ := mkHid (fun wx => lwb.sz_any bk bt z wx hbt hz0 hz1)
        by_cases hzt : z < (bt.size : Int)
        · have EE : Hid (szF l 1048576 = -1) := mkHid (by rw [E0.out, ← hE.out, hdr, szL, if_pos hzt])
          rw [if_pos hzt] at HZ
          clear hE c1 c2 hx hr hdr hs
          go_wp2_with fail
          refine (HZ.out _).mono ?_
          rintro e w1 ⟨rfl, hb1⟩
          have B1 := mkHid (hB.out.trans (hb1.mono hB.out.size))
          clear hb1 HZ
          go_wp2
          go_ret
          exact ⟨ret_eq (by rw [EE.out]; rfl), B1.out⟩
        · rw [if_neg hzt] at HZ
          have N1 : Hid (szL (l.drop (k + 1)) (z - bt.size) = szL l (1048576 - l.length)) := mkHid (by rw [← hE.out, hdr, szL, if_neg hzt])
          have hz2 : 0 ≤ z - (bt.size : Int) := by omega
          have hz3 : z - (bt.size : Int) ≤ 1048576 := by omega
          generalize z - (bt.size : Int) = z' at *
          clear hE c1 c2 hx hr hdr hs
          go_wp2_with fail
          refine (HZ.out _).mono ?_
          rintro e w1 ⟨rfl, hb1⟩
          have B1 := mkHid (hB.out.trans (hb1.mono hB.out.size))
          clear hb1 HZ
          go_wp2
          go_roundw
          case rel => exact ⟨k + 1, z', by omega, by go_num, rfl, hz2, hz3, N1, B1⟩
          case measure => simp [intOf]; omega
      · obtain rfl : k = l.length := by omega
        have EE : Hid (szF l 1048576 = z) := mkHid (by have := hE.out; rw [List.drop_of_length_le (Nat.le_refl _)] at this; rw [E0.out, ← this]; rfl)
        clear hE hr hs
        go_wp2
        go_ret
        exact ⟨ret_eq (by rw [EE.out]; rfl), hB.out⟩

theorem szL_small : ∀ (l : List (Int × ByteArray)) (m : Int), 0 ≤ szL l m → m ≤ 1048576 → ∀ b ∈ l, b.2.size ≤ 1048576
  | [], m, h, hm => by simp
  | b :: r, m, h, hm => by
    unfold szL at h
    split at h
    · omega
    · rename_i hb
      intro x hx
      rcases List.mem_cons.1 hx with rfl | hx
      · omega
      · exact szL_small r _ h (by omega) x hx

def noB : Int × ByteArray := (0, ⟨#[]⟩)
theorem made_blobs (n : Nat) : madeCells #[.int .i64 0, .string ⟨#[]⟩] (n * 2) = (bl (List.replicate n noB)).toArray := by
  apply Array.ext
  · rw [size_madeCells, List.size_toArray, row.bl_len, List.length_replicate]
    omega
  · intro i h1 h2
    rw [size_madeCells] at h1
    have hj : i / 2 < n := by omega
    have hr : (List.replicate n noB)[i / 2]? = some noB := by simp [hj]
    obtain ⟨b0, b1⟩ := row.bl_at _ _ _ hr
    rcases Nat.mod_two_eq_zero_or_one i with h | h
    · have e : i / 2 * 2 = i := by omega
      rw [e] at b0
      have hb := (List.getElem?_eq_some_iff.1 b0).2
      simp only [List.getElem_toArray, hb]
      simp [madeCells, h, noB]
    · have e : i / 2 * 2 + 1 = i := by omega
      rw [e] at b1
      have hb := (List.getElem?_eq_some_iff.1 b1).2
      simp only [List.getElem_toArray, hb]
      simp [madeCells, h, noB]
theorem run_make_blobs (n : Nat) (hn : n ≤ 1048576) (u : World) : (Instr.makeSlice 23 (.int .i64 (n : Int)) (.int .i64 (n : Int))).run Tryd.prog u =
    .ok (.slice (some ⟨u.heap.size, 0, none⟩) n n) (u.alloc (.cells (bl (List.replicate n noB)).toArray 37)) := by
  obtain ⟨i0, hi, hz0, hz1, hz2⟩ := info_parts rdr.infoB
  have h := run_make (P := Tryd.prog) u 23 37 i0 (.agg #[.int .i64 0, .string ⟨#[]⟩]) Tryd.underlying23 hi hz0 .i64 .i64 (n : Int) (n : Int) (by omega) (Int.le_refl _) (by rw [hz2]; omega) (by omega)
  have e : (n : Int).toNat = n := by omega
  rw [e] at h
  rw [← made_blobs]
  simpa [hz1, Value.cells] using h
/-- k blobs are there, the rest is nothing yet -/
def partB (l : List (Int × ByteArray)) (k : Nat) : List (Int × ByteArray) := l.take k ++ List.replicate (l.length - k) noB
theorem partB_zero (l : List (Int × ByteArray)) : partB l 0 = List.replicate l.length noB := by simp [partB]
theorem partB_all (l : List (Int × ByteArray)) : partB l l.length = l := by simp [partB]
theorem partB_len (l : List (Int × ByteArray)) (k : Nat) (h : k ≤ l.length) : (partB l k).length = l.length := by simp [partB]; omega
theorem partB_next (l : List (Int × ByteArray)) (k : Nat) (b : Int × ByteArray) (h : l[k]? = some b) : (partB l k).set k b = partB l (k + 1) := by
  have hlt := (List.getElem?_eq_some_iff.1 h).1
  unfold partB
  have e1 : (l.take k).length = k := by simp; omega
  rw [List.set_append_right _ _ (by omega), e1, Nat.sub_self, show l.length - k = (l.length - (k + 1)) + 1 by omega, List.replicate_succ, List.set_cons_zero, List.take_add_one, h]
  simp

set_option maxRecDepth 100000 in
theorem toS_any (a : Option Addr) (c : Nat) (l : List (Int × ByteArray)) (w : World) (hl : l.length ≤ 1048576) (hr : Rd w a (bl l)) :
    Calls Tryd.prog 24 #[.slice a l.length c] w (rdr.BPost w l) := by
  have hmk := run_make_blobs l.length hl
  go_enter Tryd.func24, Tryd.ntmps24
  go_wp2_with fail
  go_loopw [4] (fun i wr => ∃ k : Nat, k ≤ l.length ∧ i = .int .i64 k ∧ Hid (Own 37 wr w.heap.size (bl (partB l k)) ∧ Below w.heap.size w wr))
    (fun i _ => l.length - (intOf i).toNat)
  case atStart => exact ⟨0, Nat.zero_le _, rfl, mkHid ⟨⟨[], by rw [partB_zero, List.append_nil]; exact blk_new w _ _ rfl⟩, below_alloc1 _ _⟩⟩
  case round =>
    obtain ⟨k, hk, rfl, hO⟩ := hrel
    by_cases hlt : k < l.length
    · have hlti : (k : Int) < (l.length : Int) := by omega
      obtain ⟨⟨bk, bt⟩, hx⟩ : ∃ y, l[k]? = some y := ⟨_, List.getElem?_eq_getElem hlt⟩
      obtain ⟨g1, o1, rfl, c1, c2, l1⟩ := hr.blob hx
      have e1 := (hO.out.2.cell (p := ⟨g1, o1 + k * 2, none⟩) l1).trans c1
      have e2 := (hO.out.2.cell (p := ⟨g1, o1 + k * 2 + 1, none⟩) l1).trans c2
      have HT := mkHid (fun wx => lwb.to_any bk bt wx)
      have HX := mkHid hx
      clear c1 c2 hx hr
      go_wp2_with fail
      refine (HT.out _).mono ?_
      rintro e w1 ⟨rfl, hb1⟩
      have O1 := mkHid (And.intro (hO.out.1.below hb1) (hO.out.2.trans (hb1.mono hO.out.2.size)))
      obtain ⟨y, hy⟩ : ∃ y, (partB l k)[k]? = some y := ⟨_, List.getElem?_eq_getElem (by rw [partB_len l k hk]; exact hlt)⟩
      obtain ⟨b0, b1⟩ := row.bl_at _ _ _ hy
      have d0 := O1.out.1.cell b0
      have d1 := O1.out.1.cell b1
      have hf := O1.out.1.free
      have hlen : (bl (partB l k)).length = 2 * l.length := by rw [row.bl_len, partB_len l k hk]
      have N1 : Hid (Own 37 ((w1.setCell ⟨w.heap.size, k * 2, none⟩ (.int .i64 bk)).setCell ⟨w.heap.size, k * 2 + 1, none⟩ (.string bt)) w.heap.size (bl (partB l (k + 1))) ∧ Below w.heap.size w ((w1.setCell ⟨w.heap.size, k * 2, none⟩ (.int .i64 bk)).setCell ⟨w.heap.size, k * 2 + 1, none⟩ (.string bt))) := mkHid ⟨by
        have h := (O1.out.1.set (k * 2) (by omega) (.int .i64 bk)).set (k * 2 + 1) (by simp; omega) (.string bt)
        rw [lwb.bl_set _ _ _ _ (by rw [partB_len l k hk]; exact hlt), partB_next l k _ HX.out] at h
        exact h, (O1.out.2.setCell (by simp) _).setCell (by simp) _⟩
      clear hb1 hO O1 hy b0 b1 hlen HX HT e1 e2
      go_wp2
      exact ⟨⟨k + 1, by omega, by go_num, N1⟩, by simp [intOf]; omega⟩
    · obtain rfl : k = l.length := by omega
      have R := hO.out
      rw [partB_all] at R
      have R' := mkHid R
      clear R hO hr
      go_wp2
      go_ret
      exact ⟨_, _, rfl, .inr ⟨_, rfl, R'.out.1⟩, fun b o s e => by simp at e; omega, R'.out.2⟩
end Go.Proofs.YtfochhnaodgpeaaDoor.pack
