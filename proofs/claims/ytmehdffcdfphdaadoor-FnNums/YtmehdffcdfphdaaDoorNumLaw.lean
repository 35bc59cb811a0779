/-
  laws.FnNums answers true at all bytes. Condition: the variable errors.errorType holds what the program lays there.
-/
import Derived.Test.YtmehdffcdfphdaaDoorNumDraw
import Derived.Test.YtmehdffcdfphdaaDoorNumFacts
import Derived.ChangeOld
import Derived.Deep.RegionWith
namespace Go.Proofs.YtmehdffcdfphdaaDoor.numlaw
open Go.RowKit
open Go.Proofs.YtmehdffcdfphdaaDoor.base Go.Proofs.YtmehdffcdfphdaaDoor.draw Go.Proofs.YtmehdffcdfphdaaDoor.numdraw Go.Proofs.YtmehdffcdfphdaaDoor.numfacts
open Go.Proofs.YtmehdffcdfphdaaDoor.num (G T out tout get_any gtext_any)
open Go.Proofs.YtmehdffcdfphdaaDoor.fnExactPutNum (fold fold_bd)
open Go.Proofs.YtmehdffcdfphdaaDoor.fnExactPutText (pre)
set_option linter.unusedVariables false

def Laid (w : World) : Prop := w.cell? ⟨0, 0, none⟩ = some (as.rt 41)
theorem Laid.below {w w' : World} (h : Laid w) (hb : Below w.heap.size w w') : Laid w' := (hb.cell (as.lt_of_cell h)).trans h
theorem Laid.alloc {w : World} (h : Laid w) (o : Obj) : Laid (w.alloc o) := h.below ((Below.refl _ _).alloc (Nat.le_refl _) o)
theorem undrew {w w' : World} (h : Below w.drew.heap.size w.drew w') : Below w.heap.size w w' := ⟨h.os, h.tape, h.output, h.size, h.block⟩

theorem num_code (a b c : Value) (w : World) : (Instr.field 26 (.agg #[a, b, c]) 2).run Tryd.prog w = .ok c w := by rfl
theorem text_code (a b c : Value) (w : World) : (Instr.field 31 (.agg #[a, b, c]) 2).run Tryd.prog w = .ok c w := by rfl

set_option maxRecDepth 100000 in
set_option maxHeartbeats 2000000 in
theorem walk_in (a0 : Option Addr) (len0 cap0 : Nat) (a1 : Option Addr) (len1 cap1 : Nat) (w : World) (r0 : Row w a0 len0) (r1 : Row w a1 len1) (h0 : len0 ≤ 1048576) (h1 : len1 ≤ 1048576) (hg : Laid w) :
    Calls Tryd.prog 3 #[.slice a0 len0 cap0, .slice a1 len1 cap1] w fun e w' => e = .returned (.bool true) ∧ Below w.heap.size w w' := by
  go_enter Tryd.func3, Tryd.ntmps3
  go_wp2_with fail
  refine (drawNum_any a0 len0 cap0 w h0 r0).mono ?_
  rintro e w1 ⟨n, rfl, hn0, hn1, hb1⟩
  have R1 := mkHid (r1.below hb1)
  have B1 := mkHid (And.intro hb1 (hg.below hb1))
  clear r0 r1 hb1 hg
  obtain ⟨u, hu, hub⟩ := fold_bd n hn0 hn1
  have HI := mkHid (fun wx => fnExactPutNum.impl_any n wx hn0 hn1 u hu hub)
  have HS := mkHid (fun wx => fnExactPutNum.spec_any n wx hn0 hn1 u hu hub)
  have hGx := G_num n u hu hub
  have hGc := G_cut u hub ((num u).length - 1) rfl
  have htn := num_ten u hub
  have htp := num_pos u
  obtain ⟨t, ht⟩ : ∃ t : ByteArray, t = ⟨(num u).toArray⟩ := ⟨_, rfl⟩
  have hts : t.size = (num u).length := by rw [ht]; rfl
  rw [← ht] at HI HS hGx hGc
  rw [← hts] at hGx hGc htn htp
  clear ht hts hu hub
  have hadd1 := fun wx => run_string_add_sum (P := Tryd.prog) wx (⟨#[120, 121]⟩ : ByteArray) t (by show 2 + t.size ≤ _; omega)
  have hs1 : ((⟨#[120, 121]⟩ : ByteArray) ++ t).size = 2 + t.size := by rw [ByteArray.size_append]; rfl
  have hadd2 := fun wx => run_string_add_sum (P := Tryd.prog) wx ((⟨#[120, 121]⟩ : ByteArray) ++ t) (⟨#[122]⟩ : ByteArray) (by show _ + 1 ≤ _; omega)
  have HX : Hid (∀ wx, Laid wx → Calls Tryd.prog 7 #[.string ((⟨#[120, 121]⟩ : ByteArray) ++ t ++ ⟨#[122]⟩), .int .i64 2] wx fun e w' => e = .returned (.agg #[.int .i64 n, .int .i64 ((t.size : Int) + 2), .int .i64 0]) ∧ Below wx.heap.size wx w') := mkHid (fun wx hL => by
    have k := get_any ((⟨#[120, 121]⟩ : ByteArray) ++ t ++ ⟨#[122]⟩) 2 wx (by rw [ByteArray.size_append, hs1]; show _ + 1 ≤ _; omega) (by omega) (by omega) hL
    rw [hGx] at k
    exact k)
  have HC : Hid (∀ wx, Laid wx → Calls Tryd.prog 7 #[.string (t.extract 0 (t.size - 1)), .int .i64 0] wx fun e w' => e = .returned (.agg #[.int .i64 0, .int .i64 0, .int .i64 4]) ∧ Below wx.heap.size wx w') := mkHid (fun wx hL => by
    have k := get_any (t.extract 0 (t.size - 1)) 0 wx (by rw [ByteArray.size_extract]; omega) (by omega) (by omega) hL
    rw [hGc] at k
    exact k)
  clear hGx hGc hs1
  go_wp2_with fail
  refine (HI.out _).mono ?_
  rintro e w2 ⟨rfl, hb2⟩
  have R2 := mkHid (R1.out.below hb2)
  have B2 := mkHid (And.intro (B1.out.1.trans (hb2.mono B1.out.1.size)) (B1.out.2.below hb2))
  clear hb2 B1 R1 HI
  go_wp2_with fail
  refine (HS.out _).mono ?_
  rintro e w3 ⟨rfl, hb3⟩
  have R3 := mkHid (R2.out.below hb3)
  have B3 := mkHid (And.intro (B2.out.1.trans (hb3.mono B2.out.1.size)) (B2.out.2.below hb3))
  clear hb3 B2 R2 HS
  go_wp2_with fail
  refine (HX.out _ B3.out.2).mono ?_
  rintro e w4 ⟨rfl, hb4⟩
  have R4 := mkHid (R3.out.below hb4)
  have B4 := mkHid (And.intro (B3.out.1.trans (hb4.mono B3.out.1.size)) (B3.out.2.below hb4))
  clear hb4 B3 R3 HX hadd1 hadd2
  have hsl : ∀ wx, (Instr.slice 9 (.string t) none (some (.int .i64 ((t.size : Int) - 1))) none).run Tryd.prog wx = .ok (.string (t.extract 0 (t.size - 1))) wx := fun wx => by
    rw [run_slice_string_to_if wx 9 t .i64 ((t.size : Int) - 1) Tryd.underlying9, if_pos (by omega)]
    have e : ((t.size : Int) - 1).toNat = t.size - 1 := by omega
    rw [e]
  go_wp2_with fail
  refine (HC.out _ (B4.out.2.alloc _)).mono ?_
  rintro e w5 ⟨rfl, hb5⟩
  have hb5' := ((Below.refl w4.heap.size w4).alloc (Nat.le_refl _) (.cells #[.int .i64 n, .int .i64 ((t.size : Int) + 2), .int .i64 0] 26)).trans (hb5.mono (by simp))
  have R5 := mkHid (R4.out.below hb5')
  have B5 := mkHid (And.intro (B4.out.1.trans (hb5'.mono B4.out.1.size)) (B4.out.2.below hb5'))
  clear hb5 hb5' B4 R4 HC hsl
  have hfld := num_code
  go_wp2_with fail
  refine (drawText_any a1 len1 cap1 w5 h1 R5.out).mono ?_
  rintro e w6 ⟨u, rfl, hus, hb6⟩
  have B6 := mkHid (And.intro (B5.out.1.trans (hb6.mono B5.out.1.size)) (B5.out.2.below hb6))
  clear hb6 B5 R5
  by_cases hbig : 20000 < u.size
  · have HI := mkHid (fun wx => fnExactPutText.impl_big u wx hbig (by omega))
    have HS := mkHid (fun wx => fnExactPutText.spec_big u wx hbig (by omega))
    go_wp2_with fail
    refine (HI.out _).mono ?_
    rintro e w7 ⟨rfl, hb7⟩
    have B7 := mkHid (And.intro (B6.out.1.trans (hb7.mono B6.out.1.size)) (B6.out.2.below hb7))
    clear hb7 B6 HI
    go_wp2_with fail
    refine (HS.out _).mono ?_
    rintro e w8 ⟨rfl, hb8⟩
    have B8 := mkHid (And.intro (B7.out.1.trans (hb8.mono B7.out.1.size)) (B7.out.2.below hb8))
    clear hb8 B7
    go_wp2_with fail
    refine (HS.out _).mono ?_
    rintro e w9 ⟨rfl, hb9⟩
    have B9 := mkHid (And.intro (B8.out.1.trans (hb9.mono B8.out.1.size)) (B8.out.2.below hb9))
    clear hb9 B8
    go_wp2
    go_ret
    exact ⟨rfl, B9.out.1⟩
  · have HI := mkHid (fun wx => fnExactPutText.impl_any u wx (by omega))
    have HS := mkHid (fun wx => fnExactPutText.spec_any u wx (by omega))
    have hTt := T_text u
    have hTc := fun h => T_cut u h ((pre u.size ++ u).size - 1) rfl
    have hpp := pre_ne u
    have hps : (pre u.size ++ u).size ≤ 60001 := by
      rw [ByteArray.size_append]
      have := fnExactPutText.pre_size u.size
      omega
    obtain ⟨p, hp⟩ : ∃ p : ByteArray, p = pre u.size ++ u := ⟨_, rfl⟩
    rw [← hp] at HI HS hTt hTc hpp hps
    clear hp
    have hne : ¬ p = (⟨#[]⟩ : ByteArray) := by
      intro e
      rw [e] at hpp
      exact absurd hpp (by decide)
    have hne1 : (p.toList == []) = false := by
      rw [beq_eq_false_iff_ne]
      intro e
      rw [ByteArray.toList_eq] at e
      exact hne (ByteArray.ext (Array.toList_inj.1 e))
    go_wp2_with fail
    refine (HI.out _).mono ?_
    rintro e w7 ⟨rfl, hb7⟩
    have B7 := mkHid (And.intro (B6.out.1.trans (hb7.mono B6.out.1.size)) (B6.out.2.below hb7))
    clear hb7 B6 HI
    go_wp2_with fail
    refine (HS.out _).mono ?_
    rintro e w8 ⟨rfl, hb8⟩
    have B8 := mkHid (And.intro (B7.out.1.trans (hb8.mono B7.out.1.size)) (B7.out.2.below hb8))
    clear hb8 B7 HS
    by_cases hlen : 20000 < p.size + 1
    · clear hTt hTc
      go_wp2
      go_ret
      exact ⟨rfl, B8.out.1⟩
    · have hTt := hTt (by omega)
      have hTc := hTc (by omega)
      have hadd := fun wx => run_string_add_sum (P := Tryd.prog) wx (⟨#[120]⟩ : ByteArray) p (by show 1 + p.size ≤ _; omega)
      have HX : Hid (∀ wx, Laid wx → Calls Tryd.prog 11 #[.string ((⟨#[120]⟩ : ByteArray) ++ p), .int .i64 1] wx fun e w' => e = .returned (.agg #[.string u, .int .i64 ((p.size : Int) + 1), .int .i64 0]) ∧ Below wx.heap.size wx w') := mkHid (fun wx hL => by
        have k := gtext_any ((⟨#[120]⟩ : ByteArray) ++ p) 1 wx (by rw [ByteArray.size_append]; show 1 + _ ≤ _; omega) (by omega) (by omega) hL
        rw [hTt] at k
        exact k)
      have HC : Hid (∀ wx, Laid wx → Calls Tryd.prog 11 #[.string (p.extract 0 (p.size - 1)), .int .i64 0] wx fun e w' => e = .returned (.agg #[.string ⟨#[]⟩, .int .i64 0, .int .i64 4]) ∧ Below wx.heap.size wx w') := mkHid (fun wx hL => by
        have k := gtext_any (p.extract 0 (p.size - 1)) 0 wx (by rw [ByteArray.size_extract]; omega) (by omega) (by omega) hL
        rw [hTc] at k
        exact k)
      have hsl : ∀ wx, (Instr.slice 9 (.string p) none (some (.int .i64 ((p.size : Int) - 1))) none).run Tryd.prog wx = .ok (.string (p.extract 0 (p.size - 1))) wx := fun wx => by
        rw [run_slice_string_to_if wx 9 p .i64 ((p.size : Int) - 1) Tryd.underlying9, if_pos (by omega)]
        have e : ((p.size : Int) - 1).toNat = p.size - 1 := by omega
        rw [e]
      have hfld2 := text_code
      clear hTt hTc
      go_wp2_with fail
      refine (HX.out _ B8.out.2).mono ?_
      rintro e w9 ⟨rfl, hb9⟩
      have B9 := mkHid (And.intro (B8.out.1.trans (hb9.mono B8.out.1.size)) (B8.out.2.below hb9))
      clear hb9 B8 HX hadd
      go_wp2_with fail
      refine (HC.out _ B9.out.2).mono ?_
      rintro e w10 ⟨rfl, hb10⟩
      have B10 := mkHid (And.intro (B9.out.1.trans (hb10.mono B9.out.1.size)) (B9.out.2.below hb10))
      clear hb10 B9 HC hsl
      go_wp2
      go_ret
      exact ⟨rfl, B10.out.1⟩

/-- a slice of bytes that came in -/
def IsRow (k : IntKind) (w : World) (a : Option Addr) (len cap : Nat) (zs : List Int) : Prop :=
  (a = none ∧ len = 0 ∧ cap = 0 ∧ zs = []) ∨
  ∃ x, a = some x ∧ len ≤ cap ∧ cap ≤ maxLen ∧ zs.length = cap ∧ (∀ i, i < zs.length → w.cell? (x.add i) = some (.int k (zs.getD i 0))) ∧ ∀ n ∈ zs, (Lit.int k n).wf = true

theorem row_of {w : World} {a : Option Addr} {len cap : Nat} {zs : List Int} (h : IsRow .u8 w a len cap zs) : Row w a len := by
  rcases h with ⟨rfl, rfl, rfl, rfl⟩ | ⟨x, rfl, hl, hm, hz, hcell, hwz⟩
  · intro i hi; omega
  · intro i hi
    obtain ⟨b, off, spot⟩ := x
    have hc := hcell i (by omega)
    have hspot : spot = none := by
      have h0 := hcell 0 (by omega)
      simpa [Addr.add] using World.cell?_spot h0
    subst hspot
    have hw : (Lit.int .u8 (zs.getD i 0)).wf = true := hwz _ (by
      have hi' : i < zs.length := by omega
      simp [List.getD, List.getElem?_eq_getElem hi'])
    have hx : 0 ≤ zs.getD i 0 ∧ zs.getD i 0 ≤ 255 := by simpa [Lit.wf, IntKind.min, IntKind.max, IntKind.signed, IntKind.bits] using hw
    refine ⟨b, off, zs.getD i 0, rfl, ?_, hx.1, hx.2⟩
    rw [Addr.add_lit] at hc
    exact hc

theorem walk (a0 : Option Addr) (len0 cap0 : Nat) (z0 : List Int) (a1 : Option Addr) (len1 cap1 : Nat) (z1 : List Int) (w : World) (w0 : IsRow .u8 w a0 len0 cap0 z0) (w1 : IsRow .u8 w a1 len1 cap1 z1) (hg : Laid w) :
    Calls Tryd.prog 3 #[.slice a0 len0 cap0, .slice a1 len1 cap1] w fun e w' => e = .returned (.bool true) ∧ Below w.heap.size w w' := by
  by_cases h0 : 1048576 < len0
  · go_enter Tryd.func3, Tryd.ntmps3
    go_wp2
    go_ret
    exact ⟨rfl, Below.refl _ _⟩
  by_cases h1 : 1048576 < len1
  · go_enter Tryd.func3, Tryd.ntmps3
    go_wp2
    go_ret
    exact ⟨rfl, Below.refl _ _⟩
  exact walk_in a0 len0 cap0 a1 len1 cap1 w (row_of w0) (row_of w1) (by omega) (by omega) hg

end Go.Proofs.YtmehdffcdfphdaaDoor.numlaw
