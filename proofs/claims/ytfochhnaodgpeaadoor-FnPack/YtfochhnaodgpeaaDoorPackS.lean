/-
  What spec.l07In, l07Record, l07Pack, PackRight and PackBytes answer and leave. Conditions: at most 1,048,576 blobs, which lie in memory, of at most 1,048,576 bytes each.
-/
import Derived.Test.YtfochhnaodgpeaaDoorBlobF
import Derived.Test.YtfochhnaodgpeaaDoorCells
import Derived.Test.YtfochhnaodgpeaaDoorStrs
namespace Go.Proofs.YtfochhnaodgpeaaDoor.pack
open Go.RowKit Go.Joins
open Go.Proofs.YtfochhnaodgpeaaDoor.base Go.Proofs.YtfochhnaodgpeaaDoor.blk Go.Proofs.YtfochhnaodgpeaaDoor.aid
open Go.Proofs.YtfochhnaodgpeaaDoor.row (bl en Rd Own OwnV)
open Go.Proofs.YtfochhnaodgpeaaDoor.strs (strV RdT OwnT)
set_option linter.unusedVariables false

set_option maxRecDepth 100000 in
theorem in_any (a : Option Addr) (c : Nat) (ts : List ByteArray) (t : ByteArray) (w : World) (hl : ts.length ≤ 1048576) (hr : RdT w a ts) (bb : Bool) (hbb : bb = true ↔ t ∈ ts) :
    Calls Tryd.prog 69 #[.slice a ts.length c, .string t] w fun e w' => e = .returned (.bool bb) ∧ Below w.heap.size w w' := by
  go_enter Tryd.func69, Tryd.ntmps69
  go_wp2
  go_loopw [5] (fun i wr => ∃ k : Nat, k ≤ ts.length ∧ i = .int .i64 k ∧ Hid (t ∉ ts.take k) ∧ Hid (wr = w))
    (fun i _ => ts.length - (intOf i).toNat)
  case atStart => exact ⟨0, Nat.zero_le _, rfl, mkHid (by simp), mkHid rfl⟩
  case round =>
    obtain ⟨k, hk, rfl, hno, hw⟩ := hrel
    obtain rfl := hw.out
    by_cases hlt : k < ts.length
    · have hlti : (k : Int) < (ts.length : Int) := by omega
      obtain ⟨x, hx⟩ : ∃ z, ts[k]? = some z := ⟨_, List.getElem?_eq_getElem hlt⟩
      obtain ⟨b, off, rfl, hc⟩ := hr k x hx
      by_cases e : x = t
      · have E := mkHid (show bb = true from hbb.2 (by rw [← e]; exact List.mem_of_getElem? hx))
        have he : (x.toList == t.toList) = true := by rw [e]; simp
        clear hno hx hr
        go_wp2
        go_ret
        exact ⟨ret_eq (by rw [E.out]; rfl), Below.refl _ _⟩
      · have he := strs.bytes_ne e
        have N1 : Hid (t ∉ ts.take (k + 1)) := mkHid (by
          rw [List.take_add_one, hx]
          simp only [Option.toList_some, List.mem_append, List.mem_singleton, not_or]
          exact ⟨hno.out, fun h => e h.symm⟩)
        clear hno hx hr
        go_wp2
        go_roundw
        case rel => exact ⟨k + 1, by omega, by go_num, N1, mkHid (by trivial)⟩
        case measure => simp [intOf]; omega
    · obtain rfl : k = ts.length := by omega
      have E := mkHid (show bb = false by
        cases hb0 : bb
        · rfl
        · have h1 := hbb.1 hb0
          have h2 := hno.out
          rw [List.take_of_length_le (Nat.le_refl _)] at h2
          exact absurd h1 h2)
      clear hno hr
      go_wp2
      go_ret
      exact ⟨ret_eq (by rw [E.out]; rfl), Below.refl _ _⟩

set_option maxRecDepth 100000 in
set_option maxHeartbeats 1000000 in
theorem record_any (k : Int) (t : ByteArray) (w : World) (hb : bRight (k, t) = true) :
    Calls Tryd.prog 70 #[.agg #[.int .i64 k, .string t]] w fun e w' => e = .returned (.string (recd (k, t))) ∧ Below w.heap.size w w' := by
  obtain ⟨h1, h2⟩ := bRight_parts hb
  simp only at h1 h2
  have hk1 := bKey_size hb
  have hk2 := numB_size hb
  have hk3 := pre_small h2
  have HK := mkHid (fun wx => key_spec k t wx)
  have HN := mkHid (fun wx => num_spec k wx (by omega) (by omega))
  have HT := mkHid (fun wx => fnExactPutText.spec_any t wx (by omega))
  have E : Hid (recd (k, t) = ⟨#[66]⟩ ++ bKey (k, t) ++ numB k ++ (fnExactPutText.pre t.size ++ t)) := mkHid rfl
  have hp : (fnExactPutText.pre t.size ++ t).size ≤ 2002 := by rw [ByteArray.size_append]; omega
  generalize fnExactPutText.pre t.size ++ t = pt at *
  simp only at hk2
  generalize numB k = nk at *
  generalize bKey (k, t) = bk at *
  have s0 : (⟨#[66]⟩ : ByteArray).size = 1 := rfl
  have a1 : (9223372036854775807 < (⟨#[66]⟩ : ByteArray).size + bk.size) = False := by simp; omega
  have a2 : (9223372036854775807 < ((⟨#[66]⟩ : ByteArray) ++ bk).size + nk.size) = False := by simp [ByteArray.size_append]; omega
  have a3 : (9223372036854775807 < ((⟨#[66]⟩ : ByteArray) ++ bk ++ nk).size + pt.size) = False := by simp [ByteArray.size_append]; omega
  have d1 := fun wx => run_string_add_sum (P := Tryd.prog) wx ⟨#[66]⟩ bk (by omega)
  have d2 := fun wx => run_string_add_sum (P := Tryd.prog) wx (⟨#[66]⟩ ++ bk) nk (by rw [ByteArray.size_append]; omega)
  have d3 := fun wx => run_string_add_sum (P := Tryd.prog) wx (⟨#[66]⟩ ++ bk ++ nk) pt (by rw [ByteArray.size_append, ByteArray.size_append]; omega)
  clear hb h1 h2 hk1 hk2 hk3 hp s0
  go_enter Tryd.func70, Tryd.ntmps70
  go_wp2_with fail
  have b0 := mkHid (blk_new w (.cells #[.int .i64 k, .string t] 37) w.heap.size rfl)
  have B0 := mkHid (below_alloc1 w (.cells #[.int .i64 k, .string t] 37))
  generalize w.alloc (.cells #[.int .i64 k, .string t] 37) = W at *
  obtain ⟨c0, c1⟩ := cel2 b0.out
  go_region_held3 (fun w' => w'.cell? ⟨w.heap.size, 0, none⟩ = some (.int .i64 k) ∧ w'.cell? ⟨w.heap.size, 1, none⟩ = some (.string t)) (go_keep)
    ((first
      | (go_at_call 19; refine Calls.mono (HK.out _) ?_; rintro e w1 ⟨rfl, hb1⟩; have r1 := re (w := W) hb1 rfl rfl rfl rfl; have B1 := mkHid (B0.out.trans (r1.mono B0.out.size)); have b1 := mkHid (blk_below b0.out r1); obtain ⟨e0, e1⟩ := cel2 b1.out; clear hb1 r1)
      | (go_at_call 54; refine Calls.mono (HN.out _) ?_; rintro e w2 ⟨rfl, hb2⟩; have r2 := re (w := w1) hb2 rfl rfl rfl rfl; have B2 := mkHid (B1.out.trans (r2.mono B1.out.size)); have b2 := mkHid (blk_below b1.out r2); obtain ⟨f0, f1⟩ := cel2 b2.out; clear hb2 r2)
      | (go_at_call 85; refine Calls.mono (HT.out _) ?_; rintro e w3 ⟨rfl, hb3⟩; have r3 := re (w := w2) hb3 rfl rfl rfl rfl; have B3 := mkHid (B2.out.trans (r3.mono B2.out.size)); have b3 := mkHid (blk_below b2.out r3); obtain ⟨g0, g1⟩ := cel2 b3.out; clear hb3 r3)))
  go_wp2
  go_ret
  exact ⟨ret_eq (by rw [E.out]; rfl), B3.out⟩

end Go.Proofs.YtfochhnaodgpeaaDoor.pack
