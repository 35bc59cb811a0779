/-
  Digits of sixteen there and back, in plain words; and what spec.DrawHex and spec.DrawHexRead answer. Condition: the bytes lie in memory and are at most 1,048,576.
-/
import Derived.Test.YtobojmdgdomgpaaSpoil
import Derived.Test.YtobojmdgdomgpaaHexI
import Derived.Test.YtobojmdgdomgpaaReadI
namespace Go.Proofs.Ytobojmdgdomgpaa.hexdraw
open Go.RowKit
open Go.Proofs.Ytobojmdgdomgpaa.base Go.Proofs.Ytobojmdgdomgpaa.draw
open Go.Proofs.Ytobojmdgdomgpaa.fnExactHex (hd hexL hexL_len)
open Go.Proofs.Ytobojmdgdomgpaa.fnExactHexRead (dv dv_bd hexRd out)
set_option linter.unusedVariables false

theorem dv_hd : ∀ n : Fin 16, dv (hd n.val) = (n.val : Int) := by decide +kernel
theorem dv_hd' (n : Nat) (h : n < 16) : dv (hd n) = (n : Int) := dv_hd ⟨n, h⟩
theorem hd_dv : ∀ n : Fin 256, 0 ≤ dv (UInt8.ofNat n.val) → hd (dv (UInt8.ofNat n.val)).toNat = UInt8.ofNat n.val := by decide +kernel
theorem hd_dv' (c : UInt8) (h : 0 ≤ dv c) : hd (dv c).toNat = c := by
  have e : UInt8.ofNat c.toNat = c := by simp
  have k := hd_dv ⟨c.toNat, c.toNat_lt⟩
  simp only [e] at k
  exact k h
theorem rd_hex (l : List UInt8) : hexRd (hexL l) = some l := by
  induction l with
  | nil => rfl
  | cons c l ih =>
    have hc := c.toNat_lt
    have e : hexL (c :: l) = hd (c.toNat / 16) :: hd (c.toNat % 16) :: hexL l := rfl
    rw [e, hexRd, dv_hd' _ (by omega), dv_hd' _ (by omega), if_neg (by omega), ih]
    have e2 : (16 * ((c.toNat / 16 : Nat) : Int) + ((c.toNat % 16 : Nat) : Int)).toNat = c.toNat := by omega
    rw [e2]
    simp
theorem hex_rd : ∀ (n : Nat) (L l : List UInt8), L.length ≤ n → hexRd L = some l → hexL l = L := by
  intro n
  induction n with
  | zero =>
    intro L l h hr
    obtain rfl : L = [] := List.eq_nil_of_length_eq_zero (by omega)
    simp [hexRd] at hr
    subst hr
    rfl
  | succ n ih =>
    intro L l h hr
    match L, h, hr with
    | [], _, hr => simp [hexRd] at hr; subst hr; rfl
    | [x], _, hr => simp [hexRd] at hr
    | a :: b :: r, h, hr =>
      rw [hexRd] at hr
      split at hr
      · cases hr
      · rename_i hn
        cases hx : hexRd r with
        | none => rw [hx] at hr; cases hr
        | some l' =>
          rw [hx] at hr
          simp only [Option.map_some, Option.some.injEq] at hr
          subst hr
          have ba := dv_bd a
          have bb := dv_bd b
          have hi : (UInt8.ofNat (16 * dv a + dv b).toNat).toNat = (16 * dv a + dv b).toNat := by rw [UInt8.toNat_ofNat']; omega
          have e : hexL (UInt8.ofNat (16 * dv a + dv b).toNat :: l') = hd ((UInt8.ofNat (16 * dv a + dv b).toNat).toNat / 16) :: hd ((UInt8.ofNat (16 * dv a + dv b).toNat).toNat % 16) :: hexL l' := rfl
          have e1 : (16 * dv a + dv b).toNat / 16 = (dv a).toNat := by omega
          have e2 : (16 * dv a + dv b).toNat % 16 = (dv b).toNat := by omega
          rw [e, hi, e1, e2, hd_dv' a (by omega), hd_dv' b (by omega), ih r l' (by simp at h; omega) hx]
theorem rd_len : ∀ (n : Nat) (L l : List UInt8), L.length ≤ n → hexRd L = some l → L.length = 2 * l.length := by
  intro n L l h hr
  rw [← hex_rd n L l h hr, hexL_len]

/-- a text is drawn out of bytes: at most so long; nothing that was there turned -/
def DText (w : World) (most : Nat) (e : Ending) (w' : World) : Prop := ∃ t : ByteArray, e = .returned (.string t) ∧ t.size ≤ most ∧ Below w.heap.size w w'

set_option maxRecDepth 100000 in
theorem drawHex_any (a : Option Addr) (len cap : Nat) (w : World) (hl : len ≤ 1048576) (hr : Row w a len) :
    Calls Try.prog 4 #[.slice a len cap] w fun e w' => DText w 20 e w' := by
  go_enter Try.func4, Try.ntmps4
  go_wp2_with fail
  refine (source_any a len cap w hl hr).mono ?_
  rintro e w1 ⟨rfl, hs1, hb1⟩
  have H1 := mkHid (And.intro hs1 hb1)
  clear hs1 hb1 hr
  go_wp2_with fail
  refine (n_any w.heap.size 20 w1 (by omega) H1.out.1).mono ?_
  rintro e w2 ⟨r, rfl, hr0, hr1, _, hs2, hg2⟩
  obtain ⟨R, rfl⟩ := Int.eq_ofNat_of_zero_le hr0
  have hR : R < 20 := by have := hr1 (by omega); omega
  have H2 := mkHid (And.intro hs2 (H1.out.2.trans (grown_below hg2 (Nat.le_refl _) H1.out.2.size)))
  clear hr0 hr1 hs2 hg2 H1
  go_wp2_with fail
  refine (bytes_any w.heap.size R w2 (by omega) H2.out.1).mono ?_
  rintro e w3 ⟨t, rfl, ht, hs3, hg3⟩
  have H3 := mkHid (H2.out.2.trans (grown_below hg3 (Nat.le_refl _) H2.out.2.size))
  clear hs3 hg3 H2
  go_wp2
  go_ret
  exact ⟨t, rfl, by omega, H3.out⟩

set_option maxRecDepth 100000 in
theorem drawHexRead_any (a : Option Addr) (len cap : Nat) (w : World) (hl : len ≤ 1048576) (hr : Row w a len) :
    Calls Try.prog 5 #[.slice a len cap] w fun e w' => DText w 100 e w' := by
  go_enter Try.func5, Try.ntmps5
  go_wp2_with fail
  refine (source_any a len cap w hl hr).mono ?_
  rintro e w1 ⟨rfl, hs1, hb1⟩
  have H1 := mkHid (And.intro hs1 hb1)
  clear hs1 hb1 hr
  go_wp2_with fail
  refine (n_any w.heap.size 9 w1 (by omega) H1.out.1).mono ?_
  rintro e w2 ⟨r, rfl, hr0, hr1, _, hs2, hg2⟩
  obtain ⟨R, rfl⟩ := Int.eq_ofNat_of_zero_le hr0
  have hR : R < 9 := by have := hr1 (by omega); omega
  have H2 := mkHid (And.intro hs2 (H1.out.2.trans (grown_below hg2 (Nat.le_refl _) H1.out.2.size)))
  clear hr0 hr1 hs2 hg2 H1
  go_wp2_with fail
  refine (bytes_any w.heap.size R w2 (by omega) H2.out.1).mono ?_
  rintro e w3 ⟨t, rfl, ht, hs3, hg3⟩
  have H3 := mkHid (And.intro hs3 (H2.out.2.trans (grown_below hg3 (Nat.le_refl _) H2.out.2.size)))
  clear hs3 hg3 H2
  go_wp2_with fail
  refine (fnExactHex.spec_any t w3 (by omega)).mono ?_
  rintro e w4 ⟨rfl, hb4⟩
  have H4 := mkHid (And.intro (H3.out.1.below hb4) (H3.out.2.trans (hb4.mono H3.out.2.size)))
  have hT : (⟨(hexL t.data.toList).toArray⟩ : ByteArray).size ≤ 40 := by
    have e : (⟨(hexL t.data.toList).toArray⟩ : ByteArray).size = (hexL t.data.toList).length := rfl
    have e2 : t.data.toList.length = t.size := by rw [Array.length_toList]; rfl
    rw [e, hexL_len, e2]
    omega
  generalize (⟨(hexL t.data.toList).toArray⟩ : ByteArray) = T at *
  clear hb4 H3
  go_wp2_with fail
  refine (one_any w.heap.size 3 w4 (by omega) H4.out.1).mono ?_
  rintro e w5 ⟨b, rfl, hs5, hg5⟩
  have H5 := mkHid (And.intro hs5 (H4.out.2.trans (grown_below hg5 (Nat.le_refl _) H4.out.2.size)))
  clear hs5 hg5 H4
  cases b
  · go_wp2
    go_ret
    exact ⟨T, rfl, by omega, H5.out.2⟩
  · go_wp2_with fail
    refine (spoil_any w.heap.size T w5 (by omega) H5.out.1).mono ?_
    rintro e w6 ⟨t2, rfl, ht2, hs6, hg6⟩
    have H6 := mkHid (H5.out.2.trans (grown_below hg6 (Nat.le_refl _) H5.out.2.size))
    clear hs6 hg6 H5
    go_wp2
    go_ret
    exact ⟨t2, rfl, by omega, H6.out⟩

end Go.Proofs.Ytobojmdgdomgpaa.hexdraw
