/-
  What spec.DrawDigest and laws.lwAt answer and leave. Conditions: the bytes lie in memory and are at most 1,048,576.
-/
import Derived.Test.YtkkndkikfphnbaaDoorTextsB
import Derived.Test.YtkkndkikfphnbaaDoorWord
namespace Go.Proofs.YtkkndkikfphnbaaDoor.draw
open Go.RowKit
open Go.Proofs.YtkkndkikfphnbaaDoor.base
set_option linter.unusedVariables false

/-- a text is drawn out of bytes: at most so long; nothing that was there turned -/
def DText (w : World) (most : Nat) (e : Ending) (w' : World) : Prop := ∃ t : ByteArray, e = .returned (.string t) ∧ t.size ≤ most ∧ Below w.heap.size w w'

set_option maxRecDepth 100000 in
theorem drawDigest_any (a : Option Addr) (len cap : Nat) (w : World) (hl : len ≤ 1048576) (hr : Row w a len) :
    Calls Tryd.prog 8 #[.slice a len cap] w fun e w' => DText w 200 e w' := by
  go_enter Tryd.func8, Tryd.ntmps8
  go_wp2_with fail
  refine (source_any a len cap w hl hr).mono ?_
  rintro e w1 ⟨rfl, hs1, hb1⟩
  have H1 := mkHid (And.intro hs1 hb1)
  clear hs1 hb1 hr
  go_wp2_with fail
  refine (n_any w.heap.size 200 w1 (by omega) H1.out.1).mono ?_
  rintro e w2 ⟨r, rfl, hr0, hr1, _, hs2, hg2⟩
  obtain ⟨R, rfl⟩ := Int.eq_ofNat_of_zero_le hr0
  have hR : R < 200 := by have := hr1 (by omega); omega
  have H2 := mkHid (And.intro hs2 (H1.out.2.trans (grown_below hg2 (Nat.le_refl _) H1.out.2.size)))
  clear hr0 hr1 hs2 hg2 H1
  go_wp2_with fail
  refine (bytes_any w.heap.size R w2 (by omega) H2.out.1).mono ?_
  rintro e w3 ⟨t, rfl, ht, hs3, hg3⟩
  have H3 := mkHid (H2.out.2.trans (grown_below hg3 (Nat.le_refl _) H2.out.2.size))
  clear hs3 hg3 H2
  go_wp2
  go_ret
  exact ⟨t, rfl, by omega, H3.out⟩

/-- a number below most is told -/
def Told (w : World) (most : Int) (e : Ending) (w' : World) : Prop := ∃ r : Nat, e = .returned (.int .i64 r) ∧ (r : Int) < most ∧ w' = w

set_option maxRecDepth 100000 in
theorem lwAt_any (a : Option Addr) (len cap : Nat) (at_ : Nat) (most : Int) (w : World) (hl : len ≤ 1048576) (hr : Row w a len) (hat : at_ ≤ 1000) (hm : 1 ≤ most) (hm1 : most ≤ 1000000) :
    Calls Tryd.prog 12 #[.slice a len cap, .int .i64 at_, .int .i64 most] w fun e w' => Told w most e w' := by
  go_enter Tryd.func12, Tryd.ntmps12
  by_cases h1 : most ≤ 1
  · go_wp2
    go_ret
    exact ⟨0, rfl, by omega, rfl⟩
  · have h1' : 1 < most := by omega
    by_cases h2 : (len : Int) = 0
    · have h2' : len = 0 := by omega
      subst h2'
      go_wp2
      go_ret
      exact ⟨0, rfl, by omega, rfl⟩
    · obtain ⟨q, hq⟩ : ∃ q : Nat, (q : Int) = (at_ : Int).tmod (len : Int) := ⟨at_ % len, by rw [Int.tmod_eq_emod_of_nonneg (by omega)]; omega⟩
      have hq1 : q < len := by
        have := Int.emod_lt_of_pos (at_ : Int) (show 0 < (len : Int) by omega)
        rw [Int.tmod_eq_emod_of_nonneg (by omega)] at hq
        omega
      obtain ⟨b, off, u, rfl, hc, hu0, hu1⟩ := hr q hq1
      have hq2 : (q : Int) < (len : Int) := by omega
      have M := mkHid (And.intro (Int.emod_nonneg u (show most ≠ 0 by omega)) (Int.emod_lt_of_pos u (show 0 < most by omega)))
      have hq' := hq.symm
      clear hq hr
      go_wp2
      go_ret
      have m0 := M.out.1
      have m1 := M.out.2
      exact ⟨(u % most).toNat, word.ret_eq (by rw [Int.toNat_of_nonneg m0]; rfl), by omega, rfl⟩
end Go.Proofs.YtkkndkikfphnbaaDoor.draw
