/-
  What spec.DriveRead and impl.DriveRead answer and leave. Conditions: at most 1,048,576 files, which lie in memory, of texts of at most 1,048,576 bytes; the name has at most 1,048,576 bytes.
-/
import Derived.Test.YtfckgpmphcadeaaDrvIF
import Derived.Test.YtfckgpmphcadeaaClone
import Derived.Test.YtfckgpmphcadeaaMem
namespace Go.Proofs.Ytfckgpmphcadeaa.drv
open Go.RowKit Go.Joins
open Go.Proofs.Ytfckgpmphcadeaa.base Go.Proofs.Ytfckgpmphcadeaa.blk Go.Proofs.Ytfckgpmphcadeaa.aid
open Go.Proofs.Ytfckgpmphcadeaa.row (Rd Own OwnV)
open Go.Proofs.Ytfckgpmphcadeaa.rwStored (cs)
set_option linter.unusedVariables false

theorem readD_big {l : List File} {r : Int} {n : ByteArray} (h : 20000 < n.size) : readD l r n = (⟨#[]⟩, 2) := by unfold readD; rw [if_pos h]
theorem readD_no {l : List File} {r : Int} {n : ByteArray} (h : ¬ 20000 < n.size) (h2 : driveB l r = false) : readD l r n = (⟨#[]⟩, 1) := by unfold readD; rw [if_neg h, if_neg (by simp [h2])]
theorem readD_none {l : List File} {r : Int} {n : ByteArray} (h : ¬ 20000 < n.size) (h2 : driveB l r = true) (h3 : find l n = -1) : readD l r n = (⟨#[]⟩, 8) := by
  unfold readD
  rw [if_neg h, if_pos h2, h3]
  cases l[(-1 : Int).toNat]? <;> simp
theorem readD_some {l : List File} {r : Int} {n : ByteArray} {k : Nat} {f : File} (h : ¬ 20000 < n.size) (h2 : driveB l r = true) (h3 : find l n = (k : Int)) (h4 : l[k]? = some f) : readD l r n = (f.2.1, 0) := by
  unfold readD
  rw [if_neg h, if_pos h2, h3]
  have e : (k : Int).toNat = k := by omega
  rw [e, h4]
  have : ¬ ((k : Int) < 0) := by omega
  simp [this]
theorem below_set2 {B g : Nat} {w w1 : World} (hb : Below B w w1) (hB : B ≤ g) (hs : B ≤ w1.heap.size) (a b : Value) : Below B w ((w1.setCell ⟨g, 0, none⟩ a).setCell ⟨g, 1, none⟩ b) :=
  below_cell (below_cell hb hB hs a) hB (by simpa using hs) b

set_option maxRecDepth 100000 in
set_option maxHeartbeats 1000000 in
theorem readI_any (a : Option Addr) (c : Nat) (l : List File) (r : Int) (n : ByteArray) (w : World) (hl : l.length ≤ 1048576) (hs : Small l) (hn : n.size ≤ 1048576) (hr : Rd w a (cs l)) :
    Calls Try.prog 17 #[.agg #[.slice a l.length c, .int .i64 r], .string n] w fun e w' => e = .returned (.agg #[.string (readD l r n).1, .int .i64 (readD l r n).2]) ∧ Below w.heap.size w w' := by
  have S0 := mkHid (((mem.startR hr).var (.cells #[.slice a l.length c, .int .i64 r] 25)).var (.cells #[.string ⟨#[]⟩, .int .i64 0] 41))
  have hz : (w.alloc (.cells #[.slice a l.length c, .int .i64 r] 25)).heap.size = w.heap.size + 1 := by simp
  rw [hz] at S0
  by_cases h1 : 20000 < n.size
  · have h1i : 20000 < (n.size : Int) := by omega
    rw [readD_big h1]
    go_enter Try.func17, Try.ntmps17
    go_wp2
    exact bodyPost_ret (v := .agg #[.string ⟨#[]⟩, .int .i64 2]) (by simp [results, Try.results17, go_sem]) rfl ⟨rfl, rwStored.below2 _ _ _⟩
  have h1i : (n.size : Int) ≤ 20000 := by omega
  have HR := mkHid (rightI_any a c l r _ hl hs S0.out.r0)
  have HCl := mkHid (fun x (h : x.size ≤ 1048576) wx => clone.clone_any x wx h)
  have EN := mkHid (fun h2 => readD_no (l := l) (r := r) h1 h2)
  have E8 := mkHid (fun h2 h3 => readD_none (l := l) (r := r) h1 h2 h3)
  have E0 := mkHid (fun k f h2 h3 h4 => readD_some (l := l) (r := r) (k := k) (f := f) h1 h2 h3 h4)
  clear hr
  generalize readD l r n = o at *
  cases hd : driveB l r with
  | false =>
    have E := mkHid (EN.out hd)
    rw [hd] at HR
    clear hs
    go_enter Try.func17, Try.ntmps17
    go_wp2_with fail
    refine HR.out.mono ?_
    rintro e w1 ⟨rfl, hb1⟩
    have S1 := mkHid (S0.out.next hb1)
    obtain ⟨q0, q1⟩ := cel2 S1.out.b0
    have qf : ∀ j, w1.frozen? ⟨w.heap.size + 1, j, none⟩ = false := unfrozen S1.out.b0
    have HB := mkHid (below_set2 (g := w.heap.size + 1) S1.out.below (by omega) S1.out.below.size (.string ⟨#[]⟩) (.int .i64 1))
    clear hb1 HR
    go_wp2
    exact bodyPost_ret (v := .agg #[.string ⟨#[]⟩, .int .i64 1]) (by simp [results, Try.results17, go_sem, q0, q1]) rfl ⟨ret_eq (by rw [E.out]), HB.out⟩
  | true =>
    rw [hd] at HR
    have HRise := mkHid (drive_rising hd)
    have HF := mkHid (fun wx (hx : Rd wx a (cs l)) => findI_any a c l n wx hl HRise.out hx)
    have HSp := mkHid (find_spot HRise.out n)
    have HLe := mkHid (spot_le n l)
    have HTh : Hid (there l n = true → ∃ f, l[spot n l 0]? = some f) := mkHid (fun h => by
      unfold there at h
      cases hq : l[spot n l 0]? with
      | none => rw [hq] at h; simp at h
      | some f => exact ⟨f, rfl⟩)
    have HSm := mkHid hs
    clear hs
    generalize spot n l 0 = k at *
    go_enter Try.func17, Try.ntmps17
    go_wp2_with fail
    refine HR.out.mono ?_
    rintro e w1 ⟨rfl, hb1⟩
    have S1 := mkHid (S0.out.next hb1)
    obtain ⟨c0, c1⟩ := cel2 S1.out.b1
    clear hb1 HR S0
    go_wp2_with fail
    refine (HF.out _ S1.out.r0).mono ?_
    rintro e w2 ⟨rfl, hb2⟩
    have S2 := mkHid (S1.out.next hb2)
    obtain ⟨d0, d1⟩ := cel2 S2.out.b1
    clear hb2 HF S1 c0 c1
    cases hth : there l n with
    | false =>
      have E := mkHid (E8.out hd (by rw [HSp.out, hth]; rfl))
      obtain ⟨q0, q1⟩ := cel2 S2.out.b0
      have qf : ∀ j, w2.frozen? ⟨w.heap.size + 1, j, none⟩ = false := unfrozen S2.out.b0
      have HB := mkHid (below_set2 (g := w.heap.size + 1) S2.out.below (by omega) S2.out.below.size (.string ⟨#[]⟩) (.int .i64 8))
      go_wp2
      exact bodyPost_ret (v := .agg #[.string ⟨#[]⟩, .int .i64 8]) (by simp [results, Try.results17, go_sem, q0, q1]) rfl ⟨ret_eq (by rw [E.out]), HB.out⟩
    | true =>
      obtain ⟨f, hf⟩ := HTh.out hth
      have E := mkHid (E0.out k f hd (by rw [HSp.out, hth]; rfl) hf)
      have hkl : k < l.length := (List.getElem?_eq_some_iff.1 hf).1
      have hkl2 : (k : Int) < (l.length : Int) := by omega
      have hfs := (HSm.out f (List.mem_of_getElem? hf)).2
      obtain ⟨x0, x1, x2⟩ := f
      obtain ⟨g1, o1, rfl, e0, e1, e2, l1⟩ := rwStored.el S2.out.r0 hf
      simp only at e0 e1 e2
      have HC1 := mkHid (fun wx => HCl.out x1 hfs wx)
      clear hf
      go_wp2_with fail
      refine (HC1.out _).mono ?_
      rintro e w3 ⟨rfl, hb3⟩
      have S3 := mkHid (S2.out.next hb3)
      obtain ⟨q0, q1⟩ := cel2 S3.out.b0
      have qf : ∀ j, w3.frozen? ⟨w.heap.size + 1, j, none⟩ = false := unfrozen S3.out.b0
      have HB := mkHid (below_set2 (g := w.heap.size + 1) S3.out.below (by omega) S3.out.below.size (.string x1) (.int .i64 0))
      clear hb3
      go_wp2
      exact bodyPost_ret (v := .agg #[.string x1, .int .i64 0]) (by simp [results, Try.results17, go_sem, q0, q1]) rfl ⟨ret_eq (by rw [E.out]), HB.out⟩
end Go.Proofs.Ytfckgpmphcadeaa.drv
