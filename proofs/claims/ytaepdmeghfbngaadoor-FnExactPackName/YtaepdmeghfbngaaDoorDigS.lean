/-
  What spec.Digest and spec.Short answer and leave. Conditions: at most 1,048,576 bytes.
-/
import Derived.Test.YtaepdmeghfbngaaDoorHMoreS
import Derived.Test.YtaepdmeghfbngaaDoorHex
namespace Go.Proofs.YtaepdmeghfbngaaDoor.sha
open Go.RowKit Go.Joins
open Go.Proofs.YtaepdmeghfbngaaDoor.base Go.Proofs.YtaepdmeghfbngaaDoor.word Go.Proofs.YtaepdmeghfbngaaDoor.ints Go.Proofs.YtaepdmeghfbngaaDoor.blk
set_option linter.unusedVariables false

theorem nil_app (t : ByteArray) : (⟨#[]⟩ : ByteArray) ++ t = t := by
  apply ByteArray.ext
  simp
theorem rest_size (t : ByteArray) : (rest t).size = t.size % 64 := by
  unfold rest
  simp
  omega
theorem dig_size (z : Nat → Int) (r : ByteArray) (size : Int) : (dig z r size).size = 32 := by
  unfold dig
  show (digL _ 8).toArray.size = 32
  rw [List.size_toArray, digL_len]

set_option maxRecDepth 100000 in
theorem digest_any (t : ByteArray) (w : World) (ht : t.size ≤ 1048576) :
    Calls Tryd.prog 7 #[.string t] w fun e w' => e = .returned (.string (digest t)) ∧ Below w.heap.size w w' := by
  go_enter Tryd.func7, Tryd.ntmps7
  by_cases h1 : 20000 < (t.size : Int)
  · have E := mkHid (show digest t = ⟨#[]⟩ by unfold digest; rw [if_pos (by omega)])
    go_wp2
    go_ret
    exact ⟨word.ret_eq (by rw [E.out]; rfl), Below.refl _ _⟩
  · have E := mkHid (show digest t = dig (after start t (t.size / 64)) (rest t) t.size by unfold digest; rw [if_neg (by omega)])
    go_wp2_with fail
    refine (begin_any _).mono ?_
    rintro e w1 ⟨rfl, hk, hb1⟩
    have HM := more_any (w.heap.size + 1) 0 8 start ⟨#[]⟩ t 0 w1 (by show 0 + t.size ≤ _; omega) (by omega) (by omega) (fun i hi => by rw [Nat.zero_add]; exact rowF_cell hk hi)
    rw [nil_app, Int.zero_add] at HM
    have HM := mkHid HM
    have B1 := mkHid hb1
    clear hk hb1
    go_wp2_with fail
    refine HM.out.mono ?_
    rintro e w2 ⟨g, c, rfl, hg, hcs, hb2⟩
    have HE := mkHid (end_any g 0 c (after start t (t.size / 64)) (rest t) t.size w2 (fun i hi => by rw [Nat.zero_add]; exact hcs i hi) (by rw [rest_size]; omega) (by omega) (by omega))
    have B2 := mkHid (B1.out.trans (hb2.mono B1.out.size))
    clear hcs hb2 hg HM B1
    go_wp2_with fail
    refine HE.out.mono ?_
    rintro e w3 ⟨rfl, hb3⟩
    have B3 := mkHid (B2.out.trans (hb3.mono B2.out.size))
    clear hb3 B2 HE
    go_wp2
    go_ret
    exact ⟨word.ret_eq (by rw [E.out]; rfl), B3.out⟩

def short (t : ByteArray) : ByteArray := if 20000 < t.size then ⟨#[]⟩ else ⟨(fnExactHex.hexL ((digest t).data.toList.take 4)).toArray⟩

end Go.Proofs.YtaepdmeghfbngaaDoor.sha
