/-
  laws.FnHex answers true at all bytes: a drawn text comes back from its digits, and what is read of drawn digits is told by just these. No condition.
-/
import Derived.Test.YtobojmdgdomgpaaHexDraw
import Derived.ChangeOld
import Derived.Deep.RegionWith
namespace Go.Proofs.Ytobojmdgdomgpaa.fnHex
open Go.ChangeShapes Go.WideShapes Go.ChangeAt Go.RowKit
open Go.Proofs.Ytobojmdgdomgpaa.base Go.Proofs.Ytobojmdgdomgpaa.draw Go.Proofs.Ytobojmdgdomgpaa.hexdraw
open Go.Proofs.Ytobojmdgdomgpaa.fnExactHex (hexL hexL_len)
open Go.Proofs.Ytobojmdgdomgpaa.fnExactHexRead (hexRd out)
set_option linter.unusedVariables false

theorem own : ownKnob Try.prog.godebug = none := by kernel_rfl
theorem laidOut : laidOutB Try.prog = true := by kernel_rfl

/-- a slice of bytes that came in -/
def IsRow (k : IntKind) (w : World) (a : Option Addr) (len cap : Nat) (zs : List Int) : Prop :=
  (a = none ∧ len = 0 ∧ cap = 0 ∧ zs = []) ∨
  ∃ x, a = some x ∧ len ≤ cap ∧ cap ≤ maxLen ∧ zs.length = cap ∧ (∀ i, i < zs.length → w.cell? (x.add i) = some (.int k (zs.getD i 0))) ∧ ∀ n ∈ zs, (Lit.int k n).wf = true


theorem row_of {w : World} {a : Option Addr} {len cap : Nat} {zs : List Int} (h : IsRow .u8 w a len cap zs) : Row w a len := by
  rcases h with ⟨rfl, rfl, rfl, rfl⟩ | ⟨x, rfl, hl, hm, hz, hcell, hwz⟩
  · intro i hi; omega
  · intro i hi
    obtain ⟨b, off, spot⟩ := x
    have hc := hcell i (by omega)
    have hspot : spot = none := by
      have h0 := hcell 0 (by omega)
      simpa [Addr.add] using World.cell?_spot h0
    subst hspot
    have hw : (Lit.int .u8 (zs.getD i 0)).wf = true := hwz _ (by
      have hi' : i < zs.length := by omega
      simp [List.getD, List.getElem?_eq_getElem hi'])
    have hx : 0 ≤ zs.getD i 0 ∧ zs.getD i 0 ≤ 255 := by simpa [Lit.wf, IntKind.min, IntKind.max, IntKind.signed, IntKind.bits] using hw
    refine ⟨b, off, zs.getD i 0, rfl, ?_, hx.1, hx.2⟩
    rw [Addr.add_lit] at hc
    exact hc

theorem undrew {w w' : World} (h : Below w.drew.heap.size w.drew w') : Below w.heap.size w w' := ⟨h.os, h.tape, h.output, h.size, h.block⟩

theorem read_all (s : ByteArray) (w : World) (hs : s.size ≤ 20000) :
    Calls Try.prog 7 #[.string s] w fun e w' => e = .returned (out (hexRd s.data.toList)) ∧ Below w.heap.size w w' := by
  rcases Nat.mod_two_eq_zero_or_one s.size with h2 | h2
  · exact fnExactHexRead.impl_any s (s.size / 2) w (by omega) hs
  · exact fnExactHexRead.impl_odd s w h2 hs

theorem back (t : ByteArray) : out (hexRd (⟨(hexL t.data.toList).toArray⟩ : ByteArray).data.toList) = .agg #[.string t, .int .i64 0, .int .i64 0] := by
  have e : (⟨(hexL t.data.toList).toArray⟩ : ByteArray).data.toList = hexL t.data.toList := by simp
  rw [e, rd_hex]
  show Value.agg #[.string ⟨t.data.toList.toArray⟩, .int .i64 0, .int .i64 0] = _
  simp
theorem hex_size (t : ByteArray) : (⟨(hexL t.data.toList).toArray⟩ : ByteArray).size = 2 * t.size := by
  have e : (⟨(hexL t.data.toList).toArray⟩ : ByteArray).size = (hexL t.data.toList).length := rfl
  have e2 : t.data.toList.length = t.size := by rw [Array.length_toList]; rfl
  rw [e, hexL_len, e2]

/-- what is read of a text: by a code, or by a text of which it is the digits -/
theorem told (u : ByteArray) (hu : u.size ≤ 100) : out (hexRd u.data.toList) = .agg #[.string ⟨#[]⟩, .int .i64 0, .int .i64 3] ∨
    ∃ x : ByteArray, out (hexRd u.data.toList) = .agg #[.string x, .int .i64 0, .int .i64 0] ∧ x.size ≤ 100 ∧ (⟨(hexL x.data.toList).toArray⟩ : ByteArray) = u := by
  have hl : u.data.toList.length = u.size := by rw [Array.length_toList]; rfl
  cases hr : hexRd u.data.toList with
  | none => exact .inl rfl
  | some l =>
    have h1 := hex_rd _ _ l (Nat.le_refl _) hr
    have h2 := rd_len _ _ l (Nat.le_refl _) hr
    refine .inr ⟨⟨l.toArray⟩, rfl, by have : (⟨l.toArray⟩ : ByteArray).size = l.length := rfl
                                      omega, ?_⟩
    simp [h1]

set_option maxRecDepth 100000 in
set_option maxHeartbeats 2000000 in
theorem walk_in (a0 : Option Addr) (len0 cap0 : Nat) (a1 : Option Addr) (len1 cap1 : Nat) (w : World) (r0 : Row w a0 len0) (r1 : Row w a1 len1) (h0 : len0 ≤ 1048576) (h1 : len1 ≤ 1048576) :
    Calls Try.prog 3 #[.slice a0 len0 cap0, .slice a1 len1 cap1] w fun e w' => e = .returned (.bool true) ∧ Below w.heap.size w w' := by
  go_enter Try.func3, Try.ntmps3
  go_wp2_with fail
  refine (drawHex_any a0 len0 cap0 w h0 r0).mono ?_
  rintro e w1 ⟨t, rfl, ht, hb1⟩
  have R1 := mkHid (r1.below hb1)
  have B1 := mkHid hb1
  clear r0 r1 hb1
  go_wp2_with fail
  refine (drawHexRead_any a1 len1 cap1 w1 h1 R1.out).mono ?_
  rintro e w2 ⟨u, rfl, hu, hb2⟩
  have B2 := mkHid (B1.out.trans (hb2.mono B1.out.size))
  clear hb2 B1 R1
  go_wp2_with fail
  refine (fnExactHex.impl_any t w2 (by omega)).mono ?_
  rintro e w3 ⟨rfl, hb3⟩
  have B3 := mkHid (B2.out.trans (hb3.mono B2.out.size))
  clear hb3 B2
  have hsz := hex_size t
  have HB := mkHid (fun wx => read_all (⟨(hexL t.data.toList).toArray⟩ : ByteArray) wx (by omega))
  rw [back t] at HB
  generalize (⟨(hexL t.data.toList).toArray⟩ : ByteArray) = hx at *
  have HR := mkHid (fun wx => read_all u wx (by omega))
  have HS := mkHid (fun wx => fnExactHexRead.spec_any u wx (by omega))
  rcases told u hu with e | ⟨x, e, hxs, hxu⟩
  · rw [e] at HR HS
    clear e
    go_wp2_with fail
    refine (HR.out _).mono ?_
    rintro e w4 ⟨rfl, hb4⟩
    have B4 := mkHid (B3.out.trans (hb4.mono B3.out.size))
    clear hb4 B3
    go_wp2_with fail
    refine (HB.out _).mono ?_
    rintro e w5 ⟨rfl, hb5⟩
    have hs5 := hb5.size
    simp only [World.size_alloc] at hs5
    have c0 : w5.cell? ⟨w4.heap.size, 0, none⟩ = some (.string ⟨#[]⟩) := (hb5.cell (by simp)).trans (by simp)
    have c1 : w5.cell? ⟨w4.heap.size, 1, none⟩ = some (.int .i64 0) := (hb5.cell (by simp)).trans (by simp)
    have c2 : w5.cell? ⟨w4.heap.size, 2, none⟩ = some (.int .i64 3) := (hb5.cell (by simp)).trans (by simp)
    have B5 := mkHid ((B4.out.alloc B4.out.size _).trans (hb5.mono (by have := B4.out.size; simp; omega)))
    have hlt5 : w4.heap.size < w5.heap.size := by omega
    clear hb5 hs5 HB B4
    go_wp2_with fail
    first | go_region_with ((go_at_call 8; refine (HS.out _).mono ?_; rintro e w6 ⟨rfl, hb6⟩; have d0 : w6.cell? ⟨w4.heap.size, 0, none⟩ = some (.string ⟨#[]⟩) := (hb6.cell (by simpa using hlt5)).trans (by simpa using c0); have d1 : w6.cell? ⟨w4.heap.size, 1, none⟩ = some (.int .i64 0) := (hb6.cell (by simpa using hlt5)).trans (by simpa using c1); have d2 : w6.cell? ⟨w4.heap.size, 2, none⟩ = some (.int .i64 3) := (hb6.cell (by simpa using hlt5)).trans (by simpa using c2))) | fail
    all_goals
      have B6 := B5.out.trans (Below.mono (undrew hb6) B5.out.size)
      clear hb6
      go_wp2
      go_ret
      exact ⟨by simp [Act.put], B6⟩
  · rw [e] at HR HS
    clear e
    have HX : Hid (∀ wx, Calls Try.prog 6 #[.string x] wx fun e w' => e = .returned (.string u) ∧ Below wx.heap.size wx w') := mkHid (fun wx => by
      have k := fnExactHex.impl_any x wx (by omega)
      rw [hxu] at k
      exact k)
    clear hxu
    go_wp2_with fail
    refine (HR.out _).mono ?_
    rintro e w4 ⟨rfl, hb4⟩
    have B4 := mkHid (B3.out.trans (hb4.mono B3.out.size))
    clear hb4 B3
    go_wp2_with fail
    refine (HB.out _).mono ?_
    rintro e w5 ⟨rfl, hb5⟩
    have hs5 := hb5.size
    simp only [World.size_alloc] at hs5
    have c0 : w5.cell? ⟨w4.heap.size, 0, none⟩ = some (.string x) := (hb5.cell (by simp)).trans (by simp)
    have c1 : w5.cell? ⟨w4.heap.size, 1, none⟩ = some (.int .i64 0) := (hb5.cell (by simp)).trans (by simp)
    have c2 : w5.cell? ⟨w4.heap.size, 2, none⟩ = some (.int .i64 0) := (hb5.cell (by simp)).trans (by simp)
    have B5 := mkHid ((B4.out.alloc B4.out.size _).trans (hb5.mono (by have := B4.out.size; simp; omega)))
    have hlt5 : w4.heap.size < w5.heap.size := by omega
    clear hb5 hs5 HB B4
    go_wp2_with fail
    first | go_region_with (first | (go_at_call 8; refine (HS.out _).mono ?_; rintro e w6 ⟨rfl, hb6⟩; have d0 : w6.cell? ⟨w4.heap.size, 0, none⟩ = some (.string x) := (hb6.cell (by simpa using hlt5)).trans (by simpa using c0); have d1 : w6.cell? ⟨w4.heap.size, 1, none⟩ = some (.int .i64 0) := (hb6.cell (by simpa using hlt5)).trans (by simpa using c1); have d2 : w6.cell? ⟨w4.heap.size, 2, none⟩ = some (.int .i64 0) := (hb6.cell (by simpa using hlt5)).trans (by simpa using c2)) | (go_at_call 6; refine (HX.out _).mono ?_; rintro e w7 ⟨rfl, hb7⟩)) | fail
    all_goals
      have B6 := B5.out.trans (Below.mono (undrew hb6) B5.out.size)
      have B7 := B6.trans (hb7.mono B6.size)
      clear hb6 hb7 B6
      go_wp2
      go_ret
      exact ⟨by simp [Act.put], B7⟩

theorem walk (a0 : Option Addr) (len0 cap0 : Nat) (z0 : List Int) (a1 : Option Addr) (len1 cap1 : Nat) (z1 : List Int) (w : World) (w0 : IsRow .u8 w a0 len0 cap0 z0) (w1 : IsRow .u8 w a1 len1 cap1 z1) :
    Calls Try.prog 3 #[.slice a0 len0 cap0, .slice a1 len1 cap1] w fun e w' => e = .returned (.bool true) ∧ Below w.heap.size w w' := by
  by_cases h0 : 1048576 < len0
  · go_enter Try.func3, Try.ntmps3
    go_wp2
    go_ret
    exact ⟨rfl, Below.refl _ _⟩
  by_cases h1 : 1048576 < len1
  · go_enter Try.func3, Try.ntmps3
    go_wp2
    go_ret
    exact ⟨rfl, Below.refl _ _⟩
  exact walk_in a0 len0 cap0 a1 len1 cap1 w (row_of w0) (row_of w1) (by omega) (by omega)

set_option maxRecDepth 100000 in
theorem lifted (os : Os) (started : os.Started) (H : Type) (enc : TypeId × Value → H) :
    ReturnsInHanded {} Try.checked os 3 .any (Rows.fnHexSpec.pre6 enc Try.prog Try.f3 Rows.fnHexRow.domain false) (Rows.fnHexSpec.post enc Try.prog Try.f3 false true false false) := by
  refine returnsInHanded_of_change (C := Try.checked) own started (by kernel_rfl) Try.func3
    (ChangeSpec.witness6 (enc := enc) (C := Try.checked) false ⟨#[], #[.slice none 0 0, .slice none 0 0], []⟩ 8 (by kernel_rfl) (by kernel_rfl) (by kernel_rfl) (by kernel_rfl)) ?_
  intro W base args ds gs before hval0 hW hcnd _
  have hval : ∀ (j : Nat) t v, Try.f3.params[j]? = some t → args[j]? = some v → Value.okWide Try.prog W .any base t v := hval0
  have hW' := hW
  obtain ⟨p, q, hA0, hV, rfl, hfz, hnd⟩ := hW
  have hA : DataW.TrodAll enc Try.prog W 0 (fun _ => true) true Try.f3.params.toList args.toList ds p := hA0
  rw [Try.params3] at hA hval
  obtain ⟨v0, vs0, d0, ds0, p0, q0, hargs, rfl, rfl, h0, r0⟩ := trodAll_cons hA
  obtain ⟨v1, vs1, d1, ds1, p1, q1, rfl, rfl, rfl, h1, r1⟩ := trodAll_cons r0
  obtain ⟨rfl, rfl, rfl⟩ := trodAll_nil r1
  obtain rfl : args = #[v0, v1] := by cases args; simp_all
  obtain ⟨rfl, rfl⟩ := trodVars_none hV
  obtain ⟨a0, len0, cap0, rfl⟩ := okWide_slice Try.underlying22 (hval 0 22 v0 rfl rfl)
  have k0 := h0
  have lt0 : ∀ x ∈ p0, x.block < W.heap.size := by obtain ⟨m, hm⟩ := k0; exact DataW.trod_lt m _ _ _ hm
  obtain ⟨z0, w0⟩ : ∃ zs, IsRow .u8 W a0 len0 cap0 zs := by
    obtain ⟨fuel, hf⟩ := h0
    rcases open_ints Try.underlying22 Try.underlying5 (by kernel_rfl) hf with ⟨hcs, _⟩ | ⟨x, l, c, zs, hcs, _, hl, hm, hz, _, hcell, hwz⟩
    · simp [Value.cells] at hcs
      obtain ⟨rfl, rfl, rfl⟩ := hcs
      exact ⟨[], .inl ⟨rfl, rfl, rfl, rfl⟩⟩
    · simp [Value.cells] at hcs
      obtain ⟨rfl, rfl, rfl⟩ := hcs
      exact ⟨zs, .inr ⟨_, rfl, hl, hm, by simpa using hz, hcell, hwz⟩⟩
  obtain ⟨a1, len1, cap1, rfl⟩ := okWide_slice Try.underlying22 (hval 1 22 v1 rfl rfl)
  have k1 := h1
  have lt1 : ∀ x ∈ p1, x.block < W.heap.size := by obtain ⟨m, hm⟩ := k1; exact DataW.trod_lt m _ _ _ hm
  obtain ⟨z1, w1⟩ : ∃ zs, IsRow .u8 W a1 len1 cap1 zs := by
    obtain ⟨fuel, hf⟩ := h1
    rcases open_ints Try.underlying22 Try.underlying5 (by kernel_rfl) hf with ⟨hcs, _⟩ | ⟨x, l, c, zs, hcs, _, hl, hm, hz, _, hcell, hwz⟩
    · simp [Value.cells] at hcs
      obtain ⟨rfl, rfl, rfl⟩ := hcs
      exact ⟨[], .inl ⟨rfl, rfl, rfl, rfl⟩⟩
    · simp [Value.cells] at hcs
      obtain ⟨rfl, rfl, rfl⟩ := hcs
      exact ⟨zs, .inr ⟨_, rfl, hl, hm, by simpa using hz, hcell, hwz⟩⟩
  clear hA0 hval0
  refine (walk a0 len0 cap0 z0 a1 len1 cap1 z1 W w0 w1).mono fun e W' ⟨he, bel⟩ => ?_
  subst he
  exact ⟨_, rfl, _, _, _, [], _, [], hW', trodAll_mk1 (shut_bool Try.underlying4 _), (trodAll_cons_mk (Below.trod laidOut (by kernel_rfl) (of_decide_eq_true (by kernel_rfl)) k0 bel lt0) (trodAll_cons_mk (Below.trod laidOut (by kernel_rfl) (of_decide_eq_true (by kernel_rfl)) k1 bel lt1) trodAll_mk0)), rfl, bel.frame _, fun h => by cases h⟩

theorem over : Rows.fnHexRow.holds Try.pinned (OpenSpec.ofChange Rows.fnHexSpec) :=
  OpenClaim.holds_of_wide 3 Try.f3 rfl rfl rfl rfl rfl rfl rfl ⟨rfl, rfl, rfl, rfl, rfl⟩ rfl rfl rfl rfl rfl (by kernel_rfl) Try.func3 (by kernel_rfl)
    (of_decide_eq_true (by kernel_rfl)) (by unfold Func.isWrapper; first | (rw [if_pos (by decide +kernel)]; kernel_rfl) | (rw [if_neg (by decide +kernel)]; exact ⟨rfl, rfl⟩))
    (fun os started H enc _ => lifted os started H enc)

theorem proved : Rows.FnHexSaid := over
end Go.Proofs.Ytobojmdgdomgpaa.fnHex
