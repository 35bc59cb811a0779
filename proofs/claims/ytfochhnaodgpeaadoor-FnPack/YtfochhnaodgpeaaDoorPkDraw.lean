/-
  A text that is nearly a pack's: (*l01Src).l07Text; and spec.DrawPackBytes, DrawPackRead: what they answer and leave. Conditions: the bytes lie in memory and are at most 1,048,576.
-/
import Derived.Test.YtfochhnaodgpeaaDoorBlobsDraw
import Derived.Test.YtfochhnaodgpeaaDoorPackR
namespace Go.Proofs.YtfochhnaodgpeaaDoor.draw
open Go.RowKit Go.Joins
open Go.Proofs.YtfochhnaodgpeaaDoor.base Go.Proofs.YtfochhnaodgpeaaDoor.blk Go.Proofs.YtfochhnaodgpeaaDoor.aid
open Go.Proofs.YtfochhnaodgpeaaDoor.row (bl Rd Own OwnV)
set_option linter.unusedVariables false

set_option maxRecDepth 100000 in
set_option maxHeartbeats 4000000 in
theorem ptext_any (g : Nat) (w : World) (h : SrcAt w g) :
    Calls Tryd.prog 50 #[.pointer (some ⟨g, 0, none⟩)] w fun e w' => DrewText w g 20000 e w' := by
  have HN : Hid (∀ wx (m : Int), m ≤ 9223372036854775807 → SrcAt wx g → Calls Tryd.prog 63 #[.pointer (some ⟨g, 0, none⟩), .int .i64 m] wx fun e w' => Drew wx g m e w') := mkHid (fun wx m h1 h2 => n_any g m wx h1 h2)
  have HT : Hid (∀ wx (n : Nat), n ≤ 100000 → SrcAt wx g → Calls Tryd.prog 73 #[.pointer (some ⟨g, 0, none⟩), .int .i64 n] wx fun e w' => DrewText wx g n e w') := mkHid (fun wx n h1 h2 => bytes_any g n wx h1 h2)
  have HS : Hid (∀ wx (t : ByteArray), t.size ≤ 1000000 → SrcAt wx g → Calls Tryd.prog 72 #[.pointer (some ⟨g, 0, none⟩), .string t] wx fun e w' => DrewText wx g (t.size + 1) e w') := mkHid (fun wx t h1 h2 => spoil_any g t wx h1 h2)
  have HB := mkHid (blobs_any g w h)
  clear h
  go_enter Tryd.func50, Tryd.ntmps50
  go_wp2_with fail
  refine HB.out.mono ?_
  rintro e w1 ⟨l, a, c, rfl, hl, hr, hge, hs1, hg1⟩
  have HP := mkHid (pack.bytes_spec a c l w1 (by omega) hr)
  have S1 := mkHid (And.intro hs1 hg1)
  have hz := pack.packB_size l
  generalize pack.packB l = t at *
  clear hs1 hg1 hr hge HB
  go_wp2_with fail
  refine HP.out.mono ?_
  rintro e w2 ⟨rfl, hb2⟩
  have S2 := mkHid (And.intro (S1.out.1.below hb2) (grown_trans S1.out.2 (below_grew hb2 _)))
  clear hb2 S1 HP
  go_wp2_with fail
  refine (HN.out _ 5 (by omega) S2.out.1).mono ?_
  rintro e w3 ⟨r, rfl, hr0, hr1, _, hs3, hg3⟩
  have hr1' := hr1 (by omega)
  have S3 := mkHid (And.intro hs3 (grown_trans S2.out.2 hg3))
  clear hs3 hg3 S2 hr1
  have hzi : (t.size : Int) ≤ 12000 := by omega
  rcases (show r = 0 ∨ r = 1 ∨ r = 2 ∨ 3 ≤ r by omega) with rfl | rfl | rfl | h3
  · go_wp2_with fail
    refine (HS.out _ t (by omega) S3.out.1).mono ?_
    rintro e w4 ⟨t4, rfl, ht4, hs4, hg4⟩
    have S4 := mkHid (And.intro hs4 (grown_trans S3.out.2 hg4))
    clear hs4 hg4 S3
    go_wp2
    go_ret
    exact ⟨t4, rfl, by omega, S4.out.1, S4.out.2⟩
  · go_wp2_with fail
    refine (HN.out _ 9 (by omega) S3.out.1).mono ?_
    rintro e w4 ⟨r, rfl, hq0, hq1, _, hs4, hg4⟩
    have hq1' := hq1 (by omega)
    obtain ⟨m, rfl⟩ := Int.eq_ofNat_of_zero_le hq0
    have S4 := mkHid (And.intro hs4 (grown_trans S3.out.2 hg4))
    clear hs4 hg4 S3 hq1
    go_wp2_with fail
    refine (HT.out _ m (by omega) S4.out.1).mono ?_
    rintro e w5 ⟨t5, rfl, ht5, hs5, hg5⟩
    have S5 := mkHid (And.intro hs5 (grown_trans S4.out.2 hg5))
    clear hs5 hg5 S4
    have hadd := fun wx => run_string_add_sum (P := Tryd.prog) wx t5 t (by omega)
    go_wp2
    go_ret
    exact ⟨t5 ++ t, rfl, by rw [ByteArray.size_append]; omega, S5.out.1, S5.out.2⟩
  · go_wp2_with fail
    refine (HN.out _ ((t.size : Int) + 1) (by omega) S3.out.1).mono ?_
    rintro e w4 ⟨r, rfl, hq0, hq1, hq2, hs4, hg4⟩
    have hqz : r ≤ (t.size : Int) := by
      rcases Nat.eq_zero_or_pos t.size with h0 | h0
      · have := hq2 (by omega); omega
      · have := hq1 (by omega); omega
    obtain ⟨m, rfl⟩ := Int.eq_ofNat_of_zero_le hq0
    have S4 := mkHid (And.intro hs4 (grown_trans S3.out.2 hg4))
    clear hs4 hg4 S3 hq1 hq2
    go_wp2
    go_ret
    exact ⟨_, rfl, by simp; omega, S4.out.1, S4.out.2⟩
  · go_wp2
    go_ret
    exact ⟨t, rfl, by omega, S3.out.1, S3.out.2⟩

/-- what DrawPackBytes answers and leaves -/
def DPack (w : World) (e : Ending) (w' : World) : Prop :=
  ∃ (l : List (Int × ByteArray)) (a : Option Addr) (c : Nat), e = .returned (.slice a l.length c) ∧ l.length ≤ 100 ∧ Rd w' a (bl l) ∧ Below w.heap.size w w'
set_option maxRecDepth 100000 in
theorem drawPackBytes_any (a : Option Addr) (len cap : Nat) (w : World) (hl : len ≤ 1048576) (hr : Row w a len) :
    Calls Tryd.prog 10 #[.slice a len cap] w fun e w' => DPack w e w' := by
  have HS := mkHid (source_any a len cap w hl hr)
  clear hr
  go_enter Tryd.func10, Tryd.ntmps10
  go_wp2_with fail
  refine HS.out.mono ?_
  rintro e w1 ⟨rfl, hs1, hb1⟩
  have HB := mkHid (blobs_any w.heap.size w1 hs1)
  have B1 := mkHid hb1
  clear hs1 hb1 HS
  go_wp2_with fail
  refine HB.out.mono ?_
  rintro e w2 ⟨l, a2, c2, rfl, hl2, hr2, _, hs2, hg2⟩
  have B2 := mkHid (And.intro hr2 (B1.out.trans (grown_below hg2 (Nat.le_refl _) B1.out.size)))
  clear hs2 hg2 hr2 HB B1
  go_wp2
  go_ret
  exact ⟨l, a2, c2, rfl, hl2, B2.out.1, B2.out.2⟩
/-- what DrawPackRead answers and leaves -/
def DText (w : World) (e : Ending) (w' : World) : Prop := ∃ t : ByteArray, e = .returned (.string t) ∧ t.size ≤ 20000 ∧ Below w.heap.size w w'
set_option maxRecDepth 100000 in
theorem drawPackRead_any (a : Option Addr) (len cap : Nat) (w : World) (hl : len ≤ 1048576) (hr : Row w a len) :
    Calls Tryd.prog 16 #[.slice a len cap] w fun e w' => DText w e w' := by
  have HS := mkHid (source_any a len cap w hl hr)
  clear hr
  go_enter Tryd.func16, Tryd.ntmps16
  go_wp2_with fail
  refine HS.out.mono ?_
  rintro e w1 ⟨rfl, hs1, hb1⟩
  have HB := mkHid (ptext_any w.heap.size w1 hs1)
  have B1 := mkHid hb1
  clear hs1 hb1 HS
  go_wp2_with fail
  refine HB.out.mono ?_
  rintro e w2 ⟨t, rfl, ht, hs2, hg2⟩
  have B2 := mkHid (B1.out.trans (grown_below hg2 (Nat.le_refl _) B1.out.size))
  clear hs2 hg2 HB B1
  go_wp2
  go_ret
  exact ⟨t, rfl, ht, B2.out⟩
end Go.Proofs.YtfochhnaodgpeaaDoor.draw
