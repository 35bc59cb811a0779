/-
  Parts of a row of files, and what spec.l08Out answers and leaves. Conditions: at most 1,048,576 files, which lie in memory, in a slice that holds them.
-/
import Derived.Test.YtfckgpmphcadeaaDrvCr
namespace Go.Proofs.Ytfckgpmphcadeaa.drv
open Go.RowKit Go.Joins Go.Sort
open Go.Proofs.Ytfckgpmphcadeaa.base Go.Proofs.Ytfckgpmphcadeaa.blk Go.Proofs.Ytfckgpmphcadeaa.aid
open Go.Proofs.Ytfckgpmphcadeaa.row (Rd Own OwnV appSem app_fold)
open Go.Proofs.Ytfckgpmphcadeaa.rwStored (cs)
set_option linter.unusedVariables false

theorem add_zero (a : Addr) : a.add 0 = a := by cases a; rfl
/-- where a slice begins from place j on -/
def lo (a : Option Addr) (j c : Nat) : Option Addr := if c = j then a else a.map (fun x => x.add (j * 3))
theorem elem_is : Try.prog.elem 23 = 39 := by kernel_rfl
theorem size_is (w : World) : (sizeOf 39).run Try.prog w = .ok 3 w := by kernel_rfl
theorem und_is : Try.prog.underlying 23 = some (.slice (Try.prog.elem 23)) := by rw [elem_is]; exact Try.underlying23
set_option maxRecDepth 100000 in
theorem sl_hi (a : Option Addr) (n c i : Nat) (h : i ≤ c) (wx : World) : (sliceSem 23 (.slice a n c) none (some (.int .i64 (i : Int))) none).run Try.prog wx = .ok (.slice a i c) wx := by
  have h1 := run_slice_h (P := Try.prog) wx 23 a n c und_is .i64 (i : Int) (by omega) (by omega)
  rw [elem_is, size_is] at h1
  refine h1.trans ?_
  simp only [Result.andThen, sliced]
  have e : (i : Int).toNat = i := by omega
  rw [e]
  congr 2
  · split
    · rfl
    · cases a with
      | none => rfl
      | some ad => simp [add_zero]
set_option maxRecDepth 100000 in
theorem sl_lo (a : Option Addr) (n c j : Nat) (h : j ≤ n) (wx : World) : (sliceSem 23 (.slice a n c) (some (.int .i64 (j : Int))) none none).run Try.prog wx = .ok (.slice (lo a j c) (n - j) (c - j)) wx := by
  have h1 := run_slice_l (P := Try.prog) wx 23 a n c und_is .i64 (j : Int) (by omega) (by omega)
  rw [elem_is, size_is] at h1
  refine h1.trans ?_
  simp only [Result.andThen, sliced]
  have e : (j : Int).toNat = j := by omega
  rw [e]
  unfold lo
  congr 2
theorem rd_take {w : World} {a : Option Addr} {l : List File} (h : Rd w a (cs l)) (i : Nat) : Rd w a (cs (l.take i)) := by
  intro j u hj
  refine h j u ?_
  have e : cs l = cs (l.take i) ++ cs (l.drop i) := by rw [← rwStored.cs_app, List.take_append_drop]
  rw [e, List.getElem?_append_left (List.getElem?_eq_some_iff.1 hj).1]
  exact hj
theorem rd_drop {w : World} {a : Option Addr} {l : List File} {c : Nat} (h : Rd w a (cs l)) (j : Nat) (hj : j ≤ l.length) (hc : l.length ≤ c) : Rd w (lo a j c) (cs (l.drop j)) := by
  unfold lo
  split
  · have : l.drop j = [] := List.drop_of_length_le (by omega)
    rw [this]
    exact Rd.nil _ _
  · intro i u hi
    have e : cs l = cs (l.take j) ++ cs (l.drop j) := by rw [← rwStored.cs_app, List.take_append_drop]
    have hl : (cs (l.take j)).length = 3 * j := by rw [rwStored.cs_len, List.length_take]; congr 1; omega
    obtain ⟨b, off, ea, hb⟩ := h (3 * j + i) u (by rw [e, List.getElem?_append_right (by omega), hl]; simpa using hi)
    subst ea
    refine ⟨b, off + j * 3, by rw [Option.map_some, Addr.add_lit], ?_⟩
    have e2 : off + j * 3 + i = off + (3 * j + i) := by omega
    rw [e2]
    exact hb
/-- a row of its own is the answer -/
def RPost (w : World) (l : List File) (e : Ending) (w' : World) : Prop :=
  ∃ g cap, e = .returned (.slice (some ⟨g, 0, none⟩) l.length cap) ∧ w'.ownsRow w.heap.size 39 3 (.slice (some ⟨g, 0, none⟩) l.length cap) l.length (cs l) ∧ Below w.heap.size w w'
theorem out_len {l : List File} {i : Nat} (h : i < l.length) : (l.take i).length = i ∧ (l.drop (i + 1)).length = l.length - (i + 1) ∧ (out l i).length = i + (l.length - (i + 1)) := by
  refine ⟨by simp; omega, by simp, ?_⟩
  unfold out
  simp
  omega

attribute [local go_sem ↓] app_fold slice_fold
set_option maxRecDepth 100000 in
set_option maxHeartbeats 2000000 in
theorem outS_any (a : Option Addr) (c : Nat) (l : List File) (i : Nat) (w : World) (hl : l.length ≤ 1048576) (hi : i < l.length) (hc : l.length ≤ c) (hr : Rd w a (cs l)) :
    Calls Try.prog 107 #[.slice a l.length c, .int .i64 (i : Int)] w (RPost w (out l i)) := by
  obtain ⟨q1, q2, q3⟩ := out_len hi
  have hS1 := fun wx => sl_hi a l.length c i (by omega) wx
  have hS2 := fun wx => sl_lo a l.length c (i + 1) (by omega) wx
  have ei : ((i + 1 : Nat) : Int) = (i : Int) + 1 := by omega
  rw [ei] at hS2
  have hw : IntKind.i64.wrap ((i : Int) + 1) = (i : Int) + 1 := by rw [IntKind.wrap_i64]; omega
  clear ei
  have O0 : ((w.alloc (.cells #[] 39)).drew).ownsRow w.heap.size 39 3 (.slice (some ⟨w.heap.size, 0, none⟩) 0 0) 0 (cs []) :=
    World.ownsRow_made (base := w.heap.size) (e := 39) (size := 3) w.drew #[] 0 (Nat.le_refl _) (by decide) rfl
  have hrd : Rd ((w.alloc (.cells #[] 39)).drew) a (cs l) := Rd.alloc (w := w.drew) hr _
  obtain ⟨g1, cap1, w1, happ1, hown1, hgr1⟩ := appR _ w.heap.size w.heap.size 0 0 [] rfl O0 (by show w.heap.size ≤ (w.alloc (.cells #[] 39)).heap.size; simp) a c (l.take i) (rd_take hrd i) (by omega)
  rw [q1, Nat.zero_add] at happ1 hown1
  have hB0 : Below w.heap.size w ((w.alloc (.cells #[] 39)).drew) := re (w := w) (below_alloc1 w.drew _) rfl rfl rfl rfl
  have hB1 : Below w.heap.size w w1 := hB0.grown hgr1 hB0.size (fun k hk => by simp at hk; omega)
  have hrd1 : Rd w1 a (cs l) := hr.below hB1
  obtain ⟨g2, cap2, w2, happ2, hown2, hgr2⟩ := appR w1 w.heap.size g1 i cap1 ([] ++ l.take i) (by simp; omega) hown1 hB1.size (lo a (i + 1) c) (c - (i + 1)) (l.drop (i + 1)) (rd_drop hrd1 (i + 1) (by omega) hc) (by omega)
  rw [q2] at happ2 hown2
  have hB2 : Below w.heap.size w w2 := hB1.grown hgr2 hB1.size (fun k hk => by simp at hk; have := (hown1.lt g1 rfl).1; omega)
  have HP : Hid (RPost w (out l i) (.returned (.slice (some ⟨g2, 0, none⟩) (i + (l.length - (i + 1))) cap2)) w2) := mkHid ⟨g2, cap2, by rw [q3], by rw [q3]; exact hown2, hB2⟩
  clear hr hrd hrd1 O0 hown1 hown2 hgr1 hgr2 hB0 hB1 hB2 q1 q2 q3
  go_enter Try.func107, Try.ntmps107
  go_wp2_with fail
  go_region
  go_wp2
  go_ret
  exact HP.out
end Go.Proofs.Ytfckgpmphcadeaa.drv
