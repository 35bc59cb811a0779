/-
  What spec.PackName and impl.PackName answer and leave; laws.FnExactPackName answers true at every text. Condition: the numbers of the rounds are there.
-/
import Derived.Test.YtaepdmeghfbngaaDoorDigI
namespace Go.Proofs.YtaepdmeghfbngaaDoor.pkn
open Go.RowKit Go.Joins
open Go.Proofs.YtaepdmeghfbngaaDoor.base Go.Proofs.YtaepdmeghfbngaaDoor.ints Go.Proofs.YtaepdmeghfbngaaDoor.blk
open Go.Proofs.YtaepdmeghfbngaaDoor.sha (digest GV)
set_option linter.unusedVariables false

/-- a pack's name, of its text -/
def hex8 (t : ByteArray) : ByteArray := ⟨(fnExactHex.hexL ((digest t).extract 0 8).data.toList).toArray⟩
def packN (t : ByteArray) : ByteArray := if 20000 < t.size then ⟨#[]⟩ else (⟨#[112, 45]⟩ : ByteArray) ++ hex8 t
theorem hex8_size (t : ByteArray) (ht : ¬ 20000 < t.size) : (hex8 t).size = 16 := by
  have h32 : (digest t).size = 32 := by unfold sha.digest; rw [if_neg ht, sha.dig_size]
  show (fnExactHex.hexL ((digest t).extract 0 8).data.toList).toArray.size = 16
  rw [List.size_toArray, fnExactHex.hexL_len]
  have e : ((digest t).extract 0 8).data.toList.length = ((digest t).extract 0 8).size := by rw [Array.length_toList]; rfl
  rw [e, ByteArray.size_extract, h32]
  rfl
set_option maxRecDepth 100000 in
set_option maxHeartbeats 1000000 in
theorem packS_any (t : ByteArray) (w : World) (ht : t.size ≤ 1048576) :
    Calls Tryd.prog 4 #[.string t] w fun e w' => e = .returned (.string (packN t)) ∧ Below w.heap.size w w' := by
  by_cases h1 : 20000 < (t.size : Int)
  · have E : packN t = ⟨#[]⟩ := by unfold packN; rw [if_pos (by omega)]
    rw [E]
    clear E
    go_enter Tryd.func4, Tryd.ntmps4
    go_wp2
    go_ret
    exact ⟨rfl, Below.refl _ _⟩
  · have E : packN t = (⟨#[112, 45]⟩ : ByteArray) ++ hex8 t := by unfold packN; rw [if_neg (by omega)]
    rw [E]
    have hz := hex8_size t (by omega)
    obtain ⟨d, hd⟩ : ∃ d, d = digest t := ⟨_, rfl⟩
    have hd32 : (d.size : Int) = 32 := by
      rw [hd]
      unfold sha.digest
      rw [if_neg (by omega), sha.dig_size]
      rfl
    have HD : Hid (Calls Tryd.prog 7 #[.string t] w fun e w' => e = .returned (.string d) ∧ Below w.heap.size w w') := mkHid (by rw [hd]; exact sha.digest_any t w ht)
    have HX : Hid (∀ wx, Calls Tryd.prog 6 #[.string (d.extract 0 8)] wx fun e w' => e = .returned (.string (hex8 t)) ∧ Below wx.heap.size wx w') := mkHid (fun wx => by
      have k := fnExactHex.spec_any (d.extract 0 8) wx (by simp; omega)
      rw [hd] at k ⊢
      exact k)
    have h2 : (⟨#[112, 45]⟩ : ByteArray).size = 2 := rfl
    generalize hex8 t = x at *
    have hadd := fun wx => run_string_add_sum (P := Tryd.prog) wx ⟨#[112, 45]⟩ x (by omega)
    clear hd E
    go_enter Tryd.func4, Tryd.ntmps4
    go_wp2_with fail
    refine HD.out.mono ?_
    rintro e w1 ⟨rfl, hb1⟩
    have B1 := mkHid hb1
    clear hb1
    go_wp2_with fail
    refine (HX.out _).mono ?_
    rintro e w2 ⟨rfl, hb2⟩
    have B2 := mkHid (B1.out.trans (hb2.mono B1.out.size))
    clear hb2
    go_wp2
    go_ret
    exact ⟨rfl, B2.out⟩
set_option maxRecDepth 100000 in
set_option maxHeartbeats 1000000 in
theorem packI_any (t : ByteArray) (w : World) (ht : t.size ≤ 1048576) (hG : GV w) :
    Calls Tryd.prog 5 #[.string t] w fun e w' => e = .returned (.string (packN t)) ∧ Below w.heap.size w w' := by
  by_cases h1 : 20000 < (t.size : Int)
  · have E : packN t = ⟨#[]⟩ := by unfold packN; rw [if_pos (by omega)]
    rw [E]
    clear E
    go_enter Tryd.func5, Tryd.ntmps5
    go_wp2
    go_ret
    exact ⟨rfl, Below.refl _ _⟩
  · have E : packN t = (⟨#[112, 45]⟩ : ByteArray) ++ hex8 t := by unfold packN; rw [if_neg (by omega)]
    rw [E]
    have hz := hex8_size t (by omega)
    obtain ⟨d, hd⟩ : ∃ d, d = digest t := ⟨_, rfl⟩
    have hd32 : (d.size : Int) = 32 := by
      rw [hd]
      unfold sha.digest
      rw [if_neg (by omega), sha.dig_size]
      rfl
    have HD : Hid (Calls Tryd.prog 9 #[.string t] w fun e w' => e = .returned (.string d) ∧ Below w.heap.size w w') := mkHid (by rw [hd]; exact digI.digest_any t w ht hG)
    have HX : Hid (∀ wx, Calls Tryd.prog 8 #[.string (d.extract 0 8)] wx fun e w' => e = .returned (.string (hex8 t)) ∧ Below wx.heap.size wx w') := mkHid (fun wx => by
      have k := fnExactHex.impl_any (d.extract 0 8) wx (by simp; omega)
      rw [hd] at k ⊢
      exact k)
    have h2 : (⟨#[112, 45]⟩ : ByteArray).size = 2 := rfl
    generalize hex8 t = x at *
    have hadd := fun wx => run_string_add_sum (P := Tryd.prog) wx ⟨#[112, 45]⟩ x (by omega)
    clear hd E
    go_enter Tryd.func5, Tryd.ntmps5
    go_wp2_with fail
    refine HD.out.mono ?_
    rintro e w1 ⟨rfl, hb1⟩
    have B1 := mkHid hb1
    clear hb1
    go_wp2_with fail
    refine (HX.out _).mono ?_
    rintro e w2 ⟨rfl, hb2⟩
    have B2 := mkHid (B1.out.trans (hb2.mono B1.out.size))
    clear hb2
    go_wp2
    go_ret
    exact ⟨rfl, B2.out⟩
set_option maxRecDepth 100000 in
theorem pack_walk (t : ByteArray) (w : World) (hG : GV w) (ht : (t.size : Int) ≤ 9223372036854775807) :
    Calls Tryd.prog 3 #[.string t] w fun e w' => e = .returned (.bool true) ∧ Below w.heap.size w w' := by
  go_enter Tryd.func3, Tryd.ntmps3
  by_cases h : 1048576 < (t.size : Int)
  · go_wp2
    go_ret
    exact ⟨rfl, Below.refl _ _⟩
  · have GG := mkHid hG
    clear hG
    go_wp2_with fail
    refine (packS_any t _ (by omega)).mono ?_
    rintro e w1 ⟨rfl, hb1⟩
    have B1 := mkHid hb1
    clear hb1
    go_wp2_with fail
    refine (packI_any t _ (by omega) (GG.out.at B1.out)).mono ?_
    rintro e w2 ⟨rfl, hb2⟩
    have B2 := mkHid (B1.out.trans (hb2.mono B1.out.size))
    clear hb2
    generalize packN t = d at *
    go_wp2
    go_ret
    exact ⟨rfl, B2.out⟩
end Go.Proofs.YtaepdmeghfbngaaDoor.pkn
