/-
  spec.l01Dec answers a text. Condition: a small number.
-/
import Derived.Test.YtfochhnaodgpeaaDoorBlobDraw
namespace Go.Proofs.YtfochhnaodgpeaaDoor.draw
open Go.RowKit Go.Joins
open Go.Proofs.YtfochhnaodgpeaaDoor.base Go.Proofs.YtfochhnaodgpeaaDoor.blk Go.Proofs.YtfochhnaodgpeaaDoor.aid
set_option linter.unusedVariables false

def DecPost (w : World) (e : Ending) (w' : World) : Prop := ∃ t : ByteArray, e = .returned (.string t) ∧ t.size ≤ 200 ∧ Below w.heap.size w w'

set_option maxRecDepth 100000 in
set_option maxHeartbeats 1000000 in
theorem dec_any (n : Nat) (w : World) (hn : n ≤ 100) :
    Calls Tryd.prog 66 #[.int .i64 n] w fun e w' => DecPost w e w' := by
  by_cases h0 : n = 0
  · subst h0
    go_enter Tryd.func66, Tryd.ntmps66
    go_wp2
    go_ret
    exact ⟨_, rfl, by decide, Below.refl _ _⟩
  · have hni : ((n : Int) == 0) = false := by simp; omega
    have hn1 : ¬ ((n : Int) < 0) := by omega
    go_enter Tryd.func66, Tryd.ntmps66
    go_wp2_with fail
    go_loopw [0, 4] (fun x v wr => ∃ (k : Nat) (t : ByteArray), x = .int .i64 k ∧ v = .string t ∧ k ≤ 100 ∧ Hid (t.size + k ≤ 200) ∧ Hid (Below w.heap.size w wr))
      (fun x _ _ => (intOf x).toNat)
    case atStart => exact ⟨n, ⟨#[]⟩, rfl, rfl, hn, mkHid (by show 0 + n ≤ 200; omega), mkHid (Below.refl _ _)⟩
    case round =>
      obtain ⟨k, t, rfl, rfl, hk, ht, hB⟩ := hrel
      by_cases hk0 : k = 0
      · subst hk0
        go_wp2
        go_ret
        exact ⟨t, rfl, by have := ht.out; omega, hB.out⟩
      · have hki : ((k : Int) == 0) = false := by simp; omega
        have hki2 : (k : Int) ≤ 100 := by omega
        have hti : (t.size : Int) ≤ 200 := by have := ht.out; omega
        clear hni hn1
        have ec : ((UInt8.ofNat (48 + k % 10)).toNat : Int) = 48 + (k : Int) % 10 := by rw [UInt8.toNat_ofNat']; omega
        have hcv := one_string wr (UInt8.ofNat (48 + k % 10))
        rw [ec] at hcv
        generalize UInt8.ofNat (48 + k % 10) = ch at hcv
        clear ec
        have hadd := fun wx => run_string_add_sum (P := Tryd.prog) wx ⟨#[ch]⟩ t (by have := one_size ch; omega)
        have N1 : Hid ((⟨#[ch]⟩ ++ t : ByteArray).size + k / 10 ≤ 200) := mkHid (by have := ht.out; rw [ByteArray.size_append, one_size]; omega)
        have N2 := mkHid (hB.out.alloc hB.out.size (.cells #[.int .u8 (48 + (k : Int) % 10)] 5))
        clear ht hB
        go_wp2
        exact ⟨⟨k / 10, _, by go_num, rfl, by omega, N1, N2⟩, by simp [intOf]; omega⟩
end Go.Proofs.YtfochhnaodgpeaaDoor.draw
