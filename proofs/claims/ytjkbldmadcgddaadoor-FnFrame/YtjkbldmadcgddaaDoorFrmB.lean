/-
  What spec.l09Head, spec.l09Digest, spec.FrameBytes and impl.FrameBytes answer and leave. Conditions: texts of at most 1,048,576 bytes; for the program's: the numbers of the rounds are there.
-/
import Derived.Test.YtjkbldmadcgddaaDoorFrmP
import Derived.Test.YtjkbldmadcgddaaDoorFrmL
import Derived.Test.YtjkbldmadcgddaaDoorHImpl
import Derived.Deep.RegionHeld3
import Derived.Deep.QuietTactic
import Derived.BigQuiet
import Derived.BigRegion
namespace Go.Proofs.YtjkbldmadcgddaaDoor.frm
open Go.RowKit Go.Joins
open Go.Proofs.YtjkbldmadcgddaaDoor.base Go.Proofs.YtjkbldmadcgddaaDoor.blk Go.Proofs.YtjkbldmadcgddaaDoor.aid
open Go.Proofs.YtjkbldmadcgddaaDoor.sha (digest GV dig after rest rest_size rowF_cell begin_any more_any end_any)
set_option linter.unusedVariables false

theorem num_spec (k : Int) (w : World) (h : 0 ≤ k) (h2 : k ≤ 12000) :
    Calls Tryd.prog 38 #[.int .i64 k] w fun e w' => e = .returned (.string (numB k)) ∧ Below w.heap.size w w' :=
  fnExactPutNum.spec_any k w (by omega) (by omega) (2 * k.toNat) (by unfold fnExactPutNum.fold; rw [if_neg (by omega)]; omega) (by omega)
theorem num_impl (k : Int) (w : World) (h : 0 ≤ k) (h2 : k ≤ 12000) :
    Calls Tryd.prog 15 #[.int .i64 k] w fun e w' => e = .returned (.string (numB k)) ∧ Below w.heap.size w w' :=
  fnExactPutNum.impl_any k w (by omega) (by omega) (2 * k.toNat) (by unfold fnExactPutNum.fold; rw [if_neg (by omega)]; omega) (by omega)

set_option maxRecDepth 100000 in
theorem two_any (a b : ByteArray) (w : World) (h : a.size + b.size ≤ 20000) :
    Calls Tryd.prog 19 #[.string a, .string b] w fun e w' => e = .returned (.string (digest (a ++ b))) ∧ Below w.heap.size w w' := by
  go_enter Tryd.func19, Tryd.ntmps19
  go_wp2_with fail
  refine (begin_any _).mono ?_
  rintro e w1 ⟨rfl, hk, hb1⟩
  have HM := more_any (w.heap.size + 1) 0 8 sha.start ⟨#[]⟩ a 0 w1 (by show 0 + a.size ≤ _; omega) (by omega) (by omega) (fun i hi => by rw [Nat.zero_add]; exact rowF_cell hk hi)
  rw [sha.nil_app, Int.zero_add] at HM
  have HM := mkHid HM
  have B1 := mkHid hb1
  clear hk hb1
  go_wp2_with fail
  refine HM.out.mono ?_
  rintro e w2 ⟨g, c, rfl, hg, hcs, hb2⟩
  have HM2 := mkHid (more_any g 0 c (after sha.start a (a.size / 64)) (rest a) b a.size w2 (by rw [rest_size]; omega) (by omega) (by omega) (fun i hi => by rw [Nat.zero_add]; exact hcs i hi))
  have B2 := mkHid (B1.out.trans (hb2.mono B1.out.size))
  clear hcs hb2 hg HM B1
  go_wp2_with fail
  refine HM2.out.mono ?_
  rintro e w3 ⟨g3, c3, rfl, hg3, hcs3, hb3⟩
  have HE := end_any g3 0 c3 (after (after sha.start a (a.size / 64)) (rest a ++ b) ((rest a ++ b).size / 64)) (rest (rest a ++ b)) ((a.size : Int) + (b.size : Int)) w3 (fun i hi => by rw [Nat.zero_add]; exact hcs3 i hi) (by rw [rest_size]; omega) (by omega) (by omega)
  rw [dig_two a b h] at HE
  have HE := mkHid HE
  have B3 := mkHid (B2.out.trans (hb3.mono B2.out.size))
  clear hcs3 hb3 hg3 HM2 B2
  go_wp2_with fail
  refine HE.out.mono ?_
  rintro e w4 ⟨rfl, hb4⟩
  have B4 := mkHid (B3.out.trans (hb4.mono B3.out.size))
  clear hb4 B3 HE
  go_wp2
  go_ret
  exact ⟨rfl, B4.out⟩

set_option maxRecDepth 100000 in
set_option maxHeartbeats 4000000 in
theorem head_any (k m i s : Int) (h x : ByteArray) (w : World) (k0 : 0 ≤ k) (k1 : k ≤ 12000) (m0 : 0 ≤ m) (m1 : m ≤ 12000) (i0 : 0 ≤ i) (i1 : i ≤ 12000) (t0 : 0 ≤ s) (t1 : s ≤ 12000) (hh : h.size ≤ 1048576) :
    Calls Tryd.prog 18 #[.agg #[.int .i64 k, .int .i64 m, .int .i64 i, .int .i64 s, .string h, .string x]] w fun e w' => e = .returned (.string (headB k m i s h)) ∧ Below w.heap.size w w' := by
  have HK := mkHid (fun wx => num_spec k wx k0 k1)
  have HM := mkHid (fun wx => num_spec m wx m0 m1)
  have HI := mkHid (fun wx => num_spec i wx i0 i1)
  have HS := mkHid (fun wx => num_spec s wx t0 t1)
  have E : Hid (headB k m i s h = ⟨#[70]⟩ ++ numB k ++ numB m ++ numB i ++ numB s ++ h) := mkHid rfl
  have z1 := numB_len k1
  have z2 := numB_len m1
  have z3 := numB_len i1
  have z4 := numB_len t1
  generalize numB k = nk at *
  generalize numB m = nm at *
  generalize numB i = ni at *
  generalize numB s = ns at *
  have s0 : (⟨#[70]⟩ : ByteArray).size = 1 := rfl
  have a1 : (9223372036854775807 < (⟨#[70]⟩ : ByteArray).size + nk.size) = False := by simp; omega
  have a2 : (9223372036854775807 < ((⟨#[70]⟩ : ByteArray) ++ nk).size + nm.size) = False := by simp [ByteArray.size_append]; omega
  have a3 : (9223372036854775807 < ((⟨#[70]⟩ : ByteArray) ++ nk ++ nm).size + ni.size) = False := by simp [ByteArray.size_append]; omega
  have a4 : (9223372036854775807 < ((⟨#[70]⟩ : ByteArray) ++ nk ++ nm ++ ni).size + ns.size) = False := by simp [ByteArray.size_append]; omega
  have a5 : (9223372036854775807 < ((⟨#[70]⟩ : ByteArray) ++ nk ++ nm ++ ni ++ ns).size + h.size) = False := by simp [ByteArray.size_append]; omega
  have d1 := fun wx => run_string_add_sum (P := Tryd.prog) wx ⟨#[70]⟩ nk (by omega)
  have d2 := fun wx => run_string_add_sum (P := Tryd.prog) wx (⟨#[70]⟩ ++ nk) nm (by rw [ByteArray.size_append]; omega)
  have d3 := fun wx => run_string_add_sum (P := Tryd.prog) wx (⟨#[70]⟩ ++ nk ++ nm) ni (by rw [ByteArray.size_append, ByteArray.size_append]; omega)
  have d4 := fun wx => run_string_add_sum (P := Tryd.prog) wx (⟨#[70]⟩ ++ nk ++ nm ++ ni) ns (by simp only [ByteArray.size_append]; omega)
  have d5 := fun wx => run_string_add_sum (P := Tryd.prog) wx (⟨#[70]⟩ ++ nk ++ nm ++ ni ++ ns) h (by simp only [ByteArray.size_append]; omega)
  clear k0 k1 m0 m1 i0 i1 t0 t1 hh z1 z2 z3 z4 s0
  go_enter Tryd.func18, Tryd.ntmps18
  go_wp2_with fail
  have b0 := mkHid (blk_new w (.cells #[.int .i64 k, .int .i64 m, .int .i64 i, .int .i64 s, .string h, .string x] 24) w.heap.size rfl)
  have B0 := mkHid (below_alloc1 w (.cells #[.int .i64 k, .int .i64 m, .int .i64 i, .int .i64 s, .string h, .string x] 24))
  generalize w.alloc (.cells #[.int .i64 k, .int .i64 m, .int .i64 i, .int .i64 s, .string h, .string x] 24) = W at *
  obtain ⟨c00, c01, c02, c03, c04, c05⟩ := cel6 b0.out
  go_region_held3 (fun w' => w'.cell? ⟨w.heap.size, 0, none⟩ = some (.int .i64 k) ∧ w'.cell? ⟨w.heap.size, 1, none⟩ = some (.int .i64 m) ∧ w'.cell? ⟨w.heap.size, 2, none⟩ = some (.int .i64 i) ∧ w'.cell? ⟨w.heap.size, 3, none⟩ = some (.int .i64 s) ∧ w'.cell? ⟨w.heap.size, 4, none⟩ = some (.string h) ∧ w'.cell? ⟨w.heap.size, 5, none⟩ = some (.string x)) (go_keep)
    ((first
      | (go_at_call 38; have t := B3; clear t; refine Calls.mono (HS.out _) ?_; rintro e w4 ⟨rfl, hb⟩; have rr := re (w := w3) hb rfl rfl rfl rfl; have B4 := mkHid (B3.out.trans (rr.mono B3.out.size)); have b4 := mkHid (blk_below b3.out rr); obtain ⟨c40, c41, c42, c43, c44, c45⟩ := cel6 b4.out; clear hb rr)
      | (go_at_call 38; have t := B2; clear t; refine Calls.mono (HI.out _) ?_; rintro e w3 ⟨rfl, hb⟩; have rr := re (w := w2) hb rfl rfl rfl rfl; have B3 := mkHid (B2.out.trans (rr.mono B2.out.size)); have b3 := mkHid (blk_below b2.out rr); obtain ⟨c30, c31, c32, c33, c34, c35⟩ := cel6 b3.out; clear hb rr)
      | (go_at_call 38; have t := B1; clear t; refine Calls.mono (HM.out _) ?_; rintro e w2 ⟨rfl, hb⟩; have rr := re (w := w1) hb rfl rfl rfl rfl; have B2 := mkHid (B1.out.trans (rr.mono B1.out.size)); have b2 := mkHid (blk_below b1.out rr); obtain ⟨c20, c21, c22, c23, c24, c25⟩ := cel6 b2.out; clear hb rr)
      | (go_at_call 38; refine Calls.mono (HK.out _) ?_; rintro e w1 ⟨rfl, hb⟩; have rr := re (w := W) hb rfl rfl rfl rfl; have B1 := mkHid (B0.out.trans (rr.mono B0.out.size)); have b1 := mkHid (blk_below b0.out rr); obtain ⟨c10, c11, c12, c13, c14, c15⟩ := cel6 b1.out; clear hb rr)))
  go_wp2
  go_ret
  exact ⟨ret_eq (by rw [E.out]; rfl), B4.out⟩

theorem frmB_frame {k m i s : Int} {h x : ByteArray} (hf : frmB k m i s h x = true) : 0 ≤ k ∧ k ≤ 12000 ∧ 0 ≤ m ∧ m ≤ 12000 ∧ 0 ≤ i ∧ i ≤ 12000 ∧ 0 ≤ s ∧ s ≤ 12000 ∧ h.size = 32 ∧ x.size ≤ 12007 ∧ (headB k m i s h).size ≤ 45 := by
  obtain ⟨p1, p2, p3, p4, p5, p6, p7, p8, p9, p10, _⟩ := frmB_parts hf
  have h1 := shard_small (k := k) (n := s) p1 p7 p8
  have h2 := headB_len (k := k) (m := m) (i := i) (s := s) (h := h) (by omega) (by omega) (by omega) (by omega)
  refine ⟨by omega, by omega, by omega, by omega, by omega, by omega, by omega, by omega, by omega, by omega, by omega⟩
set_option maxRecDepth 100000 in
set_option maxHeartbeats 4000000 in
theorem bytesS_any (k m i s : Int) (h x : ByteArray) (w : World) (hh : h.size ≤ 1048576) (hx : x.size ≤ 1048576) :
    Calls Tryd.prog 7 #[.agg #[.int .i64 k, .int .i64 m, .int .i64 i, .int .i64 s, .string h, .string x]] w fun e w' => e = .returned (.string (fbytes k m i s h x)) ∧ Below w.heap.size w w' := by
  have HR := mkHid (fun wx => frmS_any k m i s h x wx hh hx)
  have b0 := mkHid (blk_new w (.cells #[.int .i64 k, .int .i64 m, .int .i64 i, .int .i64 s, .string h, .string x] 24) w.heap.size rfl)
  have B0 := mkHid (below_alloc1 w (.cells #[.int .i64 k, .int .i64 m, .int .i64 i, .int .i64 s, .string h, .string x] 24))
  cases hf : frmB k m i s h x with
  | false =>
    have E := mkHid (show fbytes k m i s h x = ⟨#[]⟩ by unfold fbytes; rw [hf]; rfl)
    rw [hf] at HR
    obtain ⟨c00, c01, c02, c03, c04, c05⟩ := cel6 b0.out
    clear hh hx
    go_enter Tryd.func7, Tryd.ntmps7
    go_wp2_with fail
    refine (HR.out _).mono ?_
    rintro e w1 ⟨rfl, hb⟩
    have B1 := mkHid (B0.out.trans (hb.mono B0.out.size))
    clear hb HR
    go_wp2
    go_ret
    exact ⟨ret_eq (by rw [E.out]; rfl), B1.out⟩
  | true =>
    rw [hf] at HR
    obtain ⟨k0, k1, m0, m1, i0, i1, t0, t1, z1, z2, z3⟩ := frmB_frame hf
    have E := mkHid (show fbytes k m i s h x = headB k m i s h ++ digest (headB k m i s h ++ x) ++ x by unfold fbytes; rw [hf]; rfl)
    have HH := mkHid (fun wx => head_any k m i s h x wx k0 k1 m0 m1 i0 i1 t0 t1 hh)
    have HDg := mkHid (fun wx => two_any (headB k m i s h) x wx (by omega))
    have z4 := digest_len (t := headB k m i s h ++ x) (by rw [ByteArray.size_append]; omega)
    generalize digest (headB k m i s h ++ x) = dg at *
    generalize headB k m i s h = hd at *
    have a1 : (9223372036854775807 < hd.size + dg.size) = False := eq_false (by omega)
    have a2 : (9223372036854775807 < (hd ++ dg).size + x.size) = False := by simp [ByteArray.size_append]; omega
    have d1 := fun wx => run_string_add_sum (P := Tryd.prog) wx hd dg (by omega)
    have d2 := fun wx => run_string_add_sum (P := Tryd.prog) wx (hd ++ dg) x (by rw [ByteArray.size_append]; omega)
    obtain ⟨c00, c01, c02, c03, c04, c05⟩ := cel6 b0.out
    clear hh hx k0 k1 m0 m1 i0 i1 t0 t1 z1 z2 z3 z4 hf
    go_enter Tryd.func7, Tryd.ntmps7
    go_wp2_with fail
    refine (HR.out _).mono ?_
    rintro e w1 ⟨rfl, hb⟩
    have B1 := mkHid (B0.out.trans (hb.mono B0.out.size))
    have b1 := mkHid (blk_below b0.out hb)
    obtain ⟨c10, c11, c12, c13, c14, c15⟩ := cel6 b1.out
    clear hb HR B0 b0 c00 c01 c02 c03 c04 c05
    go_wp2_with fail
    refine (HH.out _).mono ?_
    rintro e w2 ⟨rfl, hb⟩
    have B2 := mkHid (B1.out.trans (hb.mono B1.out.size))
    have b2 := mkHid (blk_below b1.out hb)
    obtain ⟨c20, c21, c22, c23, c24, c25⟩ := cel6 b2.out
    clear hb HH B1 b1 c10 c11 c12 c13 c14 c15
    go_wp2_with fail
    go_region_held3 (fun w' => w'.cell? ⟨w.heap.size, 5, none⟩ = some (.string x)) (go_keep)
      ((go_at_call 19; refine Calls.mono (HDg.out _) ?_; rintro e w3 ⟨rfl, hb⟩; have rr := re (w := w2) hb rfl rfl rfl rfl; have B3 := mkHid (B2.out.trans (rr.mono B2.out.size)); have b3 := mkHid (blk_below b2.out rr); obtain ⟨c30, c31, c32, c33, c34, c35⟩ := cel6 b3.out; clear hb rr))
    go_wp2
    go_ret
    exact ⟨ret_eq (by rw [E.out]; rfl), B3.out⟩
set_option maxRecDepth 100000 in
set_option maxHeartbeats 4000000 in
theorem bytesI_any (k m i s : Int) (h x : ByteArray) (w : World) (hh : h.size ≤ 1048576) (hx : x.size ≤ 1048576) (HD : himpl.IDigest) (hG : GV w) :
    Calls Tryd.prog 6 #[.agg #[.int .i64 k, .int .i64 m, .int .i64 i, .int .i64 s, .string h, .string x]] w fun e w' => e = .returned (.string (fbytes k m i s h x)) ∧ Below w.heap.size w w' := by
  have HR := mkHid (fun wx => frmI_any k m i s h x wx hh hx)
  have b0 := mkHid (blk_new w (.cells #[.int .i64 k, .int .i64 m, .int .i64 i, .int .i64 s, .string h, .string x] 24) w.heap.size rfl)
  have B0 := mkHid (below_alloc1 w (.cells #[.int .i64 k, .int .i64 m, .int .i64 i, .int .i64 s, .string h, .string x] 24))
  have HG := mkHid (fun wx (hb : Below w.heap.size w wx) => hG.below hb hG.lt)
  cases hf : frmB k m i s h x with
  | false =>
    have E := mkHid (show fbytes k m i s h x = ⟨#[]⟩ by unfold fbytes; rw [hf]; rfl)
    rw [hf] at HR
    obtain ⟨c00, c01, c02, c03, c04, c05⟩ := cel6 b0.out
    clear hh hx
    go_enter Tryd.func6, Tryd.ntmps6
    go_wp2_with fail
    refine (HR.out _).mono ?_
    rintro e w1 ⟨rfl, hb⟩
    have B1 := mkHid (B0.out.trans (hb.mono B0.out.size))
    clear hb HR
    go_wp2
    go_ret
    exact ⟨ret_eq (by rw [E.out]; rfl), B1.out⟩
  | true =>
    rw [hf] at HR
    obtain ⟨k0, k1, m0, m1, i0, i1, t0, t1, z1, z2, z3⟩ := frmB_frame hf
    have E := mkHid (show fbytes k m i s h x = headB k m i s h ++ digest (headB k m i s h ++ x) ++ x by unfold fbytes; rw [hf]; rfl)
    have HK := mkHid (fun wx => num_impl k wx k0 k1)
    have HM := mkHid (fun wx => num_impl m wx m0 m1)
    have HI := mkHid (fun wx => num_impl i wx i0 i1)
    have HS := mkHid (fun wx => num_impl s wx t0 t1)
    have HDg := mkHid (fun wx (hb : Below w.heap.size w wx) => HD (headB k m i s h ++ x) wx (by rw [ByteArray.size_append]; omega) (HG.out wx hb))
    have z4 := digest_len (t := headB k m i s h ++ x) (by rw [ByteArray.size_append]; omega)
    generalize digest (headB k m i s h ++ x) = dg at *
    have EH : Hid (headB k m i s h = ⟨#[70]⟩ ++ numB k ++ numB m ++ numB i ++ numB s ++ h) := mkHid rfl
    have y1 := numB_len k1
    have y2 := numB_len m1
    have y3 := numB_len i1
    have y4 := numB_len t1
    have a6 : (9223372036854775807 < (headB k m i s h).size + x.size) = False := eq_false (by omega)
    have a7 : (9223372036854775807 < (headB k m i s h).size + dg.size) = False := eq_false (by omega)
    have a8 : (9223372036854775807 < (headB k m i s h ++ dg).size + x.size) = False := by simp [ByteArray.size_append]; omega
    have d6 := fun wx => run_string_add_sum (P := Tryd.prog) wx (headB k m i s h) x (by omega)
    have d7 := fun wx => run_string_add_sum (P := Tryd.prog) wx (headB k m i s h) dg (by omega)
    have d8 := fun wx => run_string_add_sum (P := Tryd.prog) wx (headB k m i s h ++ dg) x (by rw [ByteArray.size_append]; omega)
    generalize headB k m i s h = hd at *
    generalize numB k = nk at *
    generalize numB m = nm at *
    generalize numB i = ni at *
    generalize numB s = ns at *
    have s0 : (⟨#[70]⟩ : ByteArray).size = 1 := rfl
    have a1 : (9223372036854775807 < (⟨#[70]⟩ : ByteArray).size + nk.size) = False := by simp; omega
    have a2 : (9223372036854775807 < ((⟨#[70]⟩ : ByteArray) ++ nk).size + nm.size) = False := by simp [ByteArray.size_append]; omega
    have a3 : (9223372036854775807 < ((⟨#[70]⟩ : ByteArray) ++ nk ++ nm).size + ni.size) = False := by simp [ByteArray.size_append]; omega
    have a4 : (9223372036854775807 < ((⟨#[70]⟩ : ByteArray) ++ nk ++ nm ++ ni).size + ns.size) = False := by simp [ByteArray.size_append]; omega
    have a5 : (9223372036854775807 < ((⟨#[70]⟩ : ByteArray) ++ nk ++ nm ++ ni ++ ns).size + h.size) = False := by simp [ByteArray.size_append]; omega
    have d1 := fun wx => run_string_add_sum (P := Tryd.prog) wx ⟨#[70]⟩ nk (by omega)
    have d2 := fun wx => run_string_add_sum (P := Tryd.prog) wx (⟨#[70]⟩ ++ nk) nm (by rw [ByteArray.size_append]; omega)
    have d3 := fun wx => run_string_add_sum (P := Tryd.prog) wx (⟨#[70]⟩ ++ nk ++ nm) ni (by rw [ByteArray.size_append, ByteArray.size_append]; omega)
    have d4 := fun wx => run_string_add_sum (P := Tryd.prog) wx (⟨#[70]⟩ ++ nk ++ nm ++ ni) ns (by simp only [ByteArray.size_append]; omega)
    have d5 := fun wx => run_string_add_sum (P := Tryd.prog) wx (⟨#[70]⟩ ++ nk ++ nm ++ ni ++ ns) h (by simp only [ByteArray.size_append]; omega)
    have EH2 := EH.out.symm
    obtain ⟨c00, c01, c02, c03, c04, c05⟩ := cel6 b0.out
    clear hh hx k0 k1 m0 m1 i0 i1 t0 t1 z1 z2 z3 z4 y1 y2 y3 y4 s0 hf
    go_enter Tryd.func6, Tryd.ntmps6
    go_wp2_with fail
    refine (HR.out _).mono ?_
    rintro e V ⟨rfl, hb⟩
    have B0 := mkHid (B0.out.trans (hb.mono B0.out.size))
    have b0 := mkHid (blk_below b0.out hb)
    clear hb HR c00 c01 c02 c03 c04 c05
    obtain ⟨c00, c01, c02, c03, c04, c05⟩ := cel6 b0.out
    go_wp2_with fail
    go_region_held3 (fun w' => w'.cell? ⟨w.heap.size, 0, none⟩ = some (.int .i64 k) ∧ w'.cell? ⟨w.heap.size, 1, none⟩ = some (.int .i64 m) ∧ w'.cell? ⟨w.heap.size, 2, none⟩ = some (.int .i64 i) ∧ w'.cell? ⟨w.heap.size, 3, none⟩ = some (.int .i64 s) ∧ w'.cell? ⟨w.heap.size, 4, none⟩ = some (.string h) ∧ w'.cell? ⟨w.heap.size, 5, none⟩ = some (.string x)) (go_keep)
      ((first
      | (go_at_call 15; have t := B3; clear t; refine Calls.mono (HS.out _) ?_; rintro e w4 ⟨rfl, hb⟩; have rr := re (w := w3) hb rfl rfl rfl rfl; have B4 := mkHid (B3.out.trans (rr.mono B3.out.size)); have b4 := mkHid (blk_below b3.out rr); obtain ⟨c40, c41, c42, c43, c44, c45⟩ := cel6 b4.out; clear hb rr)
      | (go_at_call 15; have t := B2; clear t; refine Calls.mono (HI.out _) ?_; rintro e w3 ⟨rfl, hb⟩; have rr := re (w := w2) hb rfl rfl rfl rfl; have B3 := mkHid (B2.out.trans (rr.mono B2.out.size)); have b3 := mkHid (blk_below b2.out rr); obtain ⟨c30, c31, c32, c33, c34, c35⟩ := cel6 b3.out; clear hb rr)
      | (go_at_call 15; have t := B1; clear t; refine Calls.mono (HM.out _) ?_; rintro e w2 ⟨rfl, hb⟩; have rr := re (w := w1) hb rfl rfl rfl rfl; have B2 := mkHid (B1.out.trans (rr.mono B1.out.size)); have b2 := mkHid (blk_below b1.out rr); obtain ⟨c20, c21, c22, c23, c24, c25⟩ := cel6 b2.out; clear hb rr)
      | (go_at_call 15; refine Calls.mono (HK.out _) ?_; rintro e w1 ⟨rfl, hb⟩; have rr := re (w := V) hb rfl rfl rfl rfl; have B1 := mkHid (B0.out.trans (rr.mono B0.out.size)); have b1 := mkHid (blk_below b0.out rr); obtain ⟨c10, c11, c12, c13, c14, c15⟩ := cel6 b1.out; clear hb rr)))
    clear a1 a2 a3 a4 a5 d1 d2 d3 d4 d5 c00 c01 c02 c03 c04 c05
    try clear c10 c11 c12 c13 c14 c15 c20 c21 c22 c23 c24 c25 c30 c31 c32 c33 c34 c35
    clear HK HM HI HS
    go_wp2_with fail
    go_region_held3 (fun w' => w'.cell? ⟨w.heap.size, 5, none⟩ = some (.string x)) (go_keep)
      ((go_at_call 16; refine Calls.mono (HDg.out _ (by first | exact B4.out | exact B4.out.drew)) ?_; rintro e w5 ⟨rfl, hb⟩; have rr := re (w := w4) hb rfl rfl rfl rfl; have B5 := mkHid (B4.out.trans (rr.mono B4.out.size)); have b5 := mkHid (blk_below b4.out rr); obtain ⟨c50, c51, c52, c53, c54, c55⟩ := cel6 b5.out; clear hb rr))
    go_wp2
    go_ret
    exact ⟨ret_eq (by rw [E.out]; rfl), B5.out⟩
end Go.Proofs.YtjkbldmadcgddaaDoor.frm
