/-
  What the methods WriteString, Len and String of strings.Builder answer and leave, of a builder in a block of the call's own. Conditions: at most 1,048,576 bytes.
-/
import Derived.Test.YtmmmadehifajlaaCells
import Derived.Lib.Builder
import Derived.Lib.AppendStr
import Derived.Lib.BufferWrite
import Derived.Laws.Externs
namespace Go.Proofs.Ytmmmadehifajlaa.bld
open Go.RowKit Go.Joins
open Go.Proofs.Ytmmmadehifajlaa.base Go.Proofs.Ytmmmadehifajlaa.blk Go.Proofs.Ytmmmadehifajlaa.aid
open Go.Proofs.Ytmmmadehifajlaa.row (appSem app_fold)
set_option linter.unusedVariables false
attribute [local go_sem ↓] app_fold

theorem infoB : ∃ j, Try.prog.info? 51 = some j ∧ j.size = 2 := Option.map_eq_some_iff.1 (show (Try.prog.info? 51).map (·.size) = some 2 by kernel_rfl)
theorem info8 : (Try.prog.info? 5).map (fun i => (i.zero, i.size, i.bytes)) = some (some (.int .u8 0), 1, 1) := by kernel_rfl
theorem lies : liesAt Try.prog Try.prog.depth 51 (2 / Try.prog.cellsOf 51) 0 51 1 = true := by kernel_rfl

set_option maxRecDepth 100000 in
theorem check_used (g : Nat) (w : World) (h0 : w.cell? ⟨g, 0, none⟩ = some (.pointer (some ⟨g, 0, none⟩))) :
    Calls Try.prog 61 #[.pointer (some ⟨g, 0, none⟩)] w fun e w' => e = .returned (.tuple #[]) ∧ w' = w := by
  obtain ⟨j, hj, hjs⟩ := infoB
  have hn := Lib.run_neq_ptr_same (P := Try.prog) w ⟨g, 0, none⟩ Try.underlying49 hj
  go_enter Try.func61, Try.ntmps61
  go_wp2
  go_end0
  exact ⟨rfl, rfl⟩

set_option maxRecDepth 100000 in
theorem check_fresh (g : Nat) (w : World) (h0 : w.cell? ⟨g, 0, none⟩ = some (.pointer none)) (hsh : w.shape? g = some (51, 2)) (hz : w.frozen? ⟨g, 0, none⟩ = false) :
    Calls Try.prog 61 #[.pointer (some ⟨g, 0, none⟩)] w fun e w' => e = .returned (.tuple #[]) ∧ w' = w.setCell ⟨g, 0, none⟩ (.pointer (some ⟨g, 0, none⟩)) := by
  obtain ⟨j, hj, hjs⟩ := infoB
  have h1 := Lib.run_to_unsafe (P := Try.prog) w ⟨g, 0, none⟩ Try.underlying49 Try.underlying123 hj (by rw [hjs]; decide) hsh (Nat.zero_lt_succ 1)
  have h2 : (callFunc 87 #[.pointer (some ⟨g, 0, none⟩)]).run Try.prog w = .ok (.value (.pointer (some ⟨g, 0, none⟩))) w := by
    rw [run_callFunc_extern Try.func87 (by kernel_rfl) (by kernel_rfl) (by kernel_rfl) (e := Extern.AbiNoEscape.same) (by kernel_rfl), Lib.run_noEscape]
    rfl
  have h3 := Lib.run_from_unsafe (P := Try.prog) w ⟨g, 0, none⟩ Try.underlying123 Try.underlying49 hj hsh lies
  go_enter Try.func61, Try.ntmps61
  go_wp2
  go_end0
  exact ⟨rfl, rfl⟩

theorem check_any (B g : Nat) (bs : List Value) (w : World) (h : Lib.IsBuilder 51 5 B g bs w) :
    Calls Try.prog 61 #[.pointer (some ⟨g, 0, none⟩)] w fun e w' => e = .returned (.tuple #[]) ∧ Lib.BuilderAt 51 5 B g (.pointer (some ⟨g, 0, none⟩)) bs w' ∧ Below B w w' ∧ w.grownBy w' (some g) := by
  rcases h with h | h
  · refine (check_fresh g w h.cell0 h.shape h.frozen0).mono ?_
    rintro e w' ⟨rfl, rfl⟩
    exact ⟨rfl, h.used _, (Below.refl B w).setCell (p := ⟨g, 0, none⟩) h.1 _, grew_cell _ _ _ _⟩
  · refine (check_used g w h.cell0).mono ?_
    rintro e w' ⟨rfl, rfl⟩
    exact ⟨rfl, h, Below.refl B _, grew_refl _ _⟩

/-- what is no row of bytes and not the builder stays -/
def Others (g : Nat) (w w' : World) : Prop := ∀ k o, w.heap[k]? = some o → k ≠ g → (∀ cs fr, o ≠ .cells cs 5 fr) → w'.heap[k]? = some o

set_option maxRecDepth 100000 in
theorem write_any (B g : Nat) (acc : List UInt8) (s : ByteArray) (w : World) (h : Lib.IsBuilder 51 5 B g (acc.map byteV) w) (hl : acc.length ≤ 1048576) (hs : s.size ≤ 1048576) (hB : B ≤ w.heap.size) :
    Calls Try.prog 29 #[.pointer (some ⟨g, 0, none⟩), .string s] w fun e w' => e = .returned (.tuple #[.int .i64 s.size, .nilIface]) ∧ Lib.IsBuilder 51 5 B g ((acc ++ s.data.toList).map byteV) w' ∧ Below B w w' ∧ Others g w w' := by
  have HC := mkHid (check_any B g _ w h)
  have hsi : (s.size : Int) ≤ 1048576 := by omega
  clear h
  go_enter Try.func29, Try.ntmps29
  go_wp2_with fail
  refine HC.out.mono ?_
  rintro e w1 ⟨rfl, ⟨hBg, v, hb, hown, hne⟩, hb1, hgg⟩
  obtain ⟨i0, hi, hz0, hz1, hz2⟩ := info_parts info8
  rw [List.length_map] at hown
  obtain ⟨v', w2, hrun, hown2, hgr, _⟩ := Lib.run_append_own_string (P := Try.prog) w1 B 22 9 22 5 i0 Try.underlying22 Try.underlying9 hi hz0 hz1 hz2 v acc.length (acc.map byteV) hown s (by unfold maxLen; omega) (by omega) (Nat.le_trans hB hb1.size)
  have hrun' : (appSem #[22, 9] 22 #[v, .string s]).run Try.prog w1 = .ok v' w2 := hrun
  obtain ⟨ao, n', cap, rfl⟩ : ∃ ao n' cap, v = .slice ao n' cap := by
    rcases hown.2 with ⟨hv, _⟩ | ⟨x, cap, cur, hv, _⟩
    · exact ⟨_, _, _, hv⟩
    · exact ⟨_, _, _, hv⟩
  obtain ⟨ao', m', cap', rfl⟩ : ∃ ao n' cap, v' = .slice ao n' cap := by
    rcases hown2.2 with ⟨hv, _⟩ | ⟨x, cap, cur, hv, _⟩
    · exact ⟨_, _, _, hv⟩
    · exact ⟨_, _, _, hv⟩
  have hb2 : w2.heap[g]? = some (.cells #[.pointer (some ⟨g, 0, none⟩), .slice ao n' cap] 51 (0, 0)) := (hgr.block g (Array.getElem?_eq_some_iff.1 hb).1 (fun e => hne e.symm)).trans hb
  have c1 := (cel2 hb).2
  have d1 := (cel2 hb2).2
  have f1 := unfrozen hb2 1
  have HO : Others g w (w2.setCell ⟨g, 1, none⟩ (.slice ao' m' cap')) := by
    intro k o hk hkg hno
    have hk1 : w1.heap[k]? = some o := (hgg.block k (Array.getElem?_eq_some_iff.1 hk).1 (by simpa using hkg)).trans hk
    have hk2 : w2.heap[k]? = some o := (hgr.block k (Array.getElem?_eq_some_iff.1 hk1).1 (fun e => by
      rcases hown.2 with ⟨hv, _⟩ | ⟨x, cp, cur, hv, _, hx, _⟩
      · rw [hv] at e
        cases e
      · rw [hv] at e
        obtain rfl : k = x := by simpa [Value.ownBlock] using e
        rw [hk1] at hx
        exact hno _ _ (Option.some.inj hx))).trans hk1
    exact blk_set hk2 _ _ hkg
  have N : Hid (Lib.IsBuilder 51 5 B g ((acc ++ s.data.toList).map byteV) (w2.setCell ⟨g, 1, none⟩ (.slice ao' m' cap')) ∧ Below B w (w2.setCell ⟨g, 1, none⟩ (.slice ao' m' cap')) ∧ Others g w (w2.setCell ⟨g, 1, none⟩ (.slice ao' m' cap'))) :=
    mkHid ⟨.inr (Lib.BuilderAt.put (T := 51) (e := 5) hBg hb2 (bs' := (acc ++ s.data.toList).map byteV) (by
      have hsz : s.data.toList.length = s.size := by rw [Array.length_toList]; rfl
      rw [List.length_map, List.length_append, hsz, List.map_append]
      exact hown2) (by decide)), (hb1.grown hgr (Nat.le_trans hB hb1.size) (fun k hk => (hown.lt k hk).1)).setCell (p := ⟨g, 1, none⟩) hBg _, HO⟩
  clear hrun hown hown2 hgr hb hb1 hb2 hne HC
  go_wp2
  exact bodyPost_ret (v := .tuple #[.int .i64 s.size, .nilIface]) (by simp [results, Try.results29, go_sem]) rfl ⟨rfl, N.out.1, N.out.2.1, N.out.2.2⟩

set_option maxRecDepth 100000 in
theorem str_some (B g : Nat) (acc : List UInt8) (w : World) (h : Lib.IsBuilder 51 5 B g (acc.map byteV) w) (h0 : acc ≠ []) :
    Calls Try.prog 33 #[.pointer (some ⟨g, 0, none⟩)] w fun e w' => e = .returned (.string ⟨acc.toArray⟩) ∧ Below B w w' := by
  obtain ⟨p, hB, v, hbk, hown, hne⟩ : ∃ p, Lib.BuilderAt 51 5 B g p (acc.map byteV) w := by
    rcases h with h | h
    · exact ⟨_, h⟩
    · exact ⟨_, h⟩
  rw [List.length_map] at hown
  have hl0 : acc.length ≠ 0 := by simpa using h0
  have hown' := hown
  rcases hown.2 with ⟨_, hz⟩ | ⟨x, cap, cur, rfl, hbg, hg, hnc, hcm, hcs, htake⟩
  · exact absurd hz hl0
  have hSD : ∀ W : World, (Builtin.unsafeSliceData_ #[22] 97 #[.slice (some ⟨x, 0, none⟩) acc.length cap]).run Try.prog W = .ok (.pointer (some ⟨x, 0, none⟩)) W := fun W => Lib.run_unsafeSliceData_row _ _ _ _ _ _ (by omega)
  have hUS : (Builtin.unsafeString_ #[97, 3] 9 #[.pointer (some ⟨x, 0, none⟩), .int .i64 acc.length]).run Try.prog w.drew = .ok (.string ⟨acc.toArray⟩) (w.drew.freeze ⟨x, 0, none⟩ acc.length) := by
    refine Lib.run_unsafeString_row w.drew 97 3 9 5 Try.underlying97 (by kernel_rfl) x cur.size (by have hg' : w.drew.heap[x]? = some (.cells cur 5 (0, 0)) := hg; simp [World.shape?, hg']) acc h0 (by omega) (by unfold maxLen at hcm; omega) ?_
    intro j y hy
    exact hown'.cells (g := x) rfl j (.int .u8 y.toNat) (by simp [byteV, hy])
  have c1 := (cel2 hbk).2
  go_enter Try.func33, Try.ntmps33
  go_wp2_with fail
  go_region
  all_goals go_wp2
  all_goals go_ret
  all_goals exact ⟨rfl, Lib.below_freeze (Below.drew (Below.refl B w)) (p := ⟨x, 0, none⟩) hbg _⟩

set_option maxRecDepth 100000 in
theorem str_nil (B g : Nat) (p : Value) (w : World) (hbk : w.heap[g]? = some (.cells #[p, .slice none 0 0] 51 (0, 0))) :
    Calls Try.prog 33 #[.pointer (some ⟨g, 0, none⟩)] w fun e w' => e = .returned (.string ⟨#[]⟩) ∧ Below B w w' := by
  have hSD : ∀ W : World, (Builtin.unsafeSliceData_ #[22] 97 #[.slice none 0 0]).run Try.prog W = .ok (.pointer none) W := fun W => rfl
  have hUS : ∀ W : World, (Builtin.unsafeString_ #[97, 3] 9 #[.pointer none, .int .i64 0]).run Try.prog W = .ok (.string .empty) W := fun W => Lib.run_unsafeString_none W _ _ _ none
  have c1 := (cel2 hbk).2
  go_enter Try.func33, Try.ntmps33
  go_wp2_with fail
  go_region
  all_goals go_wp2
  all_goals go_ret
  all_goals exact ⟨rfl, Below.drew (Below.refl B w)⟩
end Go.Proofs.Ytmmmadehifajlaa.bld
