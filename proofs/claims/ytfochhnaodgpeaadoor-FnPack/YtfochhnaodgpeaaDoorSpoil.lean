/-
  (*l01Src).spoil answers a text of at most one byte more. Conditions: the source lies in one block of its own, the text has at most 1,000,000 bytes.
-/
import Derived.Test.YtfochhnaodgpeaaDoorTexts
import Derived.Laws.DeepStrings4
namespace Go.Proofs.YtfochhnaodgpeaaDoor.draw
open Go.RowKit
open Go.Proofs.YtfochhnaodgpeaaDoor.base
set_option linter.unusedVariables false

theorem drew_mk {w w' : World} {g most : Nat} {t : ByteArray} (hs : t.size ≤ most) (h : SrcAt w' g ∧ w.grownBy w' (some g)) : DrewText w g most (.returned (.string t)) w' := ⟨t, rfl, hs, h.1, h.2⟩
theorem src_drew {w w' : World} {g : Nat} (h : SrcAt w' g ∧ w.grownBy w' (some g)) : SrcAt w'.drew g ∧ w.grownBy w'.drew (some g) :=
  ⟨h.1, ⟨h.2.os, h.2.tape, h.2.output, h.2.size, h.2.block⟩⟩
theorem src_next {w w1 w2 : World} {g : Nat} (h : SrcAt w1 g ∧ w.grownBy w1 (some g)) (hs : SrcAt w2 g) (hg : w1.grownBy w2 (some g)) : SrcAt w2 g ∧ w.grownBy w2 (some g) := ⟨hs, grown_trans h.2 hg⟩
theorem src_alloc {w w1 : World} {g : Nat} (o : Obj) (h : SrcAt w1 g ∧ w.grownBy w1 (some g)) : SrcAt (w1.alloc o) g ∧ w.grownBy (w1.alloc o) (some g) :=
  ⟨h.1.below ((Below.refl _ _).alloc (Nat.le_refl _) _), grown_trans h.2 (World.grownBy_alloc _ _ _)⟩

theorem one_string (w : World) (c : UInt8) : (convert 22 9 (.slice (some ⟨w.heap.size, 0, none⟩) 1 1)).run Tryd.prog (w.alloc (.cells #[.int .u8 (c.toNat : Int)] 5)) = .ok (.string ⟨#[c]⟩) (w.alloc (.cells #[.int .u8 (c.toNat : Int)] 5)) := by
  have h := run_convert_bytes_back (P := Tryd.prog) (w.alloc (.cells #[.int .u8 (c.toNat : Int)] 5)) 22 9 5 ⟨w.heap.size, 0, none⟩ 1 [c] Tryd.underlying22 Tryd.underlying5 Tryd.underlying9 (by
    intro j hj
    obtain rfl : j = 0 := by simpa using hj
    simp [Addr.add])
  simpa using h

theorem one_size (c : UInt8) : (⟨#[c]⟩ : ByteArray).size = 1 := rfl

set_option maxRecDepth 100000 in
set_option maxHeartbeats 2000000 in
theorem spoil_any (g : Nat) (t : ByteArray) (w : World) (ht : t.size ≤ 1000000) (h : SrcAt w g) :
    Calls Tryd.prog 72 #[.pointer (some ⟨g, 0, none⟩), .string t] w fun e w' => DrewText w g (t.size + 1) e w' := by
  go_enter Tryd.func72, Tryd.ntmps72
  go_wp2_with fail
  refine (n_any g _ w (by omega) h).mono ?_
  rintro e w1 ⟨r, rfl, hr0, hr1, hr2, hs1, hg1⟩
  obtain ⟨K, rfl⟩ := Int.eq_ofNat_of_zero_le hr0
  have hK : K ≤ t.size := by
    rcases Nat.eq_zero_or_pos t.size with h0 | h0
    · have := hr2 (by omega); omega
    · have := hr1 (by omega); omega
  have H1 := mkHid (And.intro hs1 hg1)
  clear hr0 hr1 hr2 hs1 hg1 h
  go_wp2_with fail
  refine (n_any g 17 w1 (by omega) H1.out.1).mono ?_
  rintro e w2 ⟨r, rfl, hr0, hr1, hr2, hs2, hg2⟩
  obtain ⟨R, rfl⟩ := Int.eq_ofNat_of_zero_le hr0
  have hR : R < 17 := by have := hr1 (by omega); omega
  have hRi : (R : Int) < 17 := by omega
  have H2 := mkHid (src_next H1.out hs2 hg2)
  clear hr0 hr1 hr2 hs2 hg2 H1
  obtain ⟨ch, hch⟩ : ∃ ch : UInt8, ∀ hx, (⟨#[32, 10, 48, 97, 45, 110, 44, 58, 93, 255, 40, 120, 126, 49, 128, 225, 59]⟩ : ByteArray)[R]'hx = ch := ⟨(⟨#[32, 10, 48, 97, 45, 110, 44, 58, 93, 255, 40, 120, 126, 49, 128, 225, 59]⟩ : ByteArray)[R]'hR, fun _ => rfl⟩
  have hcv := one_string w2 ch
  have H3 := mkHid (src_alloc (.cells #[.int .u8 (ch.toNat : Int)] 5) H2.out)
  clear H2
  have hadd : ∀ (x y : ByteArray) (wx : World), x.size ≤ 2000000 → y.size ≤ 2000000 → (Op.stringOp .add x y).run Tryd.prog wx = .ok (.string (x ++ y)) wx := fun x y wx h1 h2 => run_string_add_sum (P := Tryd.prog) wx x y (by omega)
  have hKi : (K : Int) ≤ (t.size : Int) := by omega
  by_cases hKe : K = t.size
  · subst hKe
    go_wp2_with fail
    go_region
    go_wp2
    go_ret
    exact drew_mk (by simp only [ByteArray.size_append, one_size]; omega) (by repeat (first | exact H3.out | apply src_drew))
  · have hKb : ((K : Int) == (t.size : Int)) = false := by simp; omega
    go_wp2_with fail
    refine (one_any g 3 _ (by omega) H3.out.1).mono ?_
    rintro e w3 ⟨b, rfl, hs3, hg3⟩
    have H4 := mkHid (src_next H3.out hs3 hg3)
    clear hs3 hg3 H3 hcv
    cases b
    · go_wp2_with fail
      refine (one_any g 2 _ (by omega) H4.out.1).mono ?_
      rintro e w4 ⟨b, rfl, hs4, hg4⟩
      have H5 := mkHid (src_next H4.out hs4 hg4)
      clear hs4 hg4 H4
      have hK1 : (K : Int) + 1 ≤ (t.size : Int) := by omega
      cases b
      · go_wp2_with fail
        go_region
        go_wp2
        go_ret
        exact drew_mk (by simp only [ByteArray.size_append, ByteArray.size_extract, one_size]; omega) (by repeat (first | exact H5.out | apply src_drew))
      · go_wp2_with fail
        go_region
        go_wp2
        go_ret
        exact drew_mk (by simp only [ByteArray.size_append, ByteArray.size_extract]; omega) (by repeat (first | exact H5.out | apply src_drew))
    · go_wp2_with fail
      go_region
      go_wp2
      go_ret
      exact drew_mk (by simp only [ByteArray.size_append, ByteArray.size_extract, one_size]; omega) (by repeat (first | exact H4.out | apply src_drew))

end Go.Proofs.YtfochhnaodgpeaaDoor.draw
