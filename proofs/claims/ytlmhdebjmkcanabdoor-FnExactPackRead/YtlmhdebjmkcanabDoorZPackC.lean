/-
  What the methods WriteString, Len and String of strings.Builder answer and leave, of a builder in a block of the call's own. Conditions: at most 1,048,576 bytes.
  How many keys a set holds that was filled from a list: as many as the list has, just if no two are alike. No condition.
  What impl.PackBytes and impl.PackRight answer and leave. Conditions: at most 1,048,576 blobs, which lie in memory; the numbers of the rounds are there.
-/
import Derived.Test.YtlmhdebjmkcanabDoorZCellA
import Derived.Test.YtlmhdebjmkcanabDoorZPackA
import Derived.Test.YtlmhdebjmkcanabDoorZPackB
import Derived.Test.YtlmhdebjmkcanabDoorZShaD
import Derived.Lib.Builder
import Derived.Lib.AppendStr
import Derived.Lib.BufferWrite
import Derived.Laws.Externs
import Derived.Maps.OwnSet
namespace Go.Proofs.YtlmhdebjmkcanabDoor.bld
open Go.RowKit Go.Joins
open Go.Proofs.YtlmhdebjmkcanabDoor.base Go.Proofs.YtlmhdebjmkcanabDoor.blk Go.Proofs.YtlmhdebjmkcanabDoor.aid
open Go.Proofs.YtlmhdebjmkcanabDoor.row (appSem app_fold)
set_option linter.unusedVariables false
attribute [local go_sem ↓] app_fold

theorem infoB : ∃ j, Tryd.prog.info? 83 = some j ∧ j.size = 2 := Option.map_eq_some_iff.1 (show (Tryd.prog.info? 83).map (·.size) = some 2 by kernel_rfl)
theorem info8 : (Tryd.prog.info? 5).map (fun i => (i.zero, i.size, i.bytes)) = some (some (.int .u8 0), 1, 1) := by kernel_rfl
theorem lies : liesAt Tryd.prog Tryd.prog.depth 83 (2 / Tryd.prog.cellsOf 83) 0 83 1 = true := by kernel_rfl

set_option maxRecDepth 100000 in
theorem check_used (g : Nat) (w : World) (h0 : w.cell? ⟨g, 0, none⟩ = some (.pointer (some ⟨g, 0, none⟩))) :
    Calls Tryd.prog 69 #[.pointer (some ⟨g, 0, none⟩)] w fun e w' => e = .returned (.tuple #[]) ∧ w' = w := by
  obtain ⟨j, hj, hjs⟩ := infoB
  have hn := Lib.run_neq_ptr_same (P := Tryd.prog) w ⟨g, 0, none⟩ Tryd.underlying81 hj
  go_enter Tryd.func69, Tryd.ntmps69
  go_wp2
  go_end0
  exact ⟨rfl, rfl⟩

set_option maxRecDepth 100000 in
theorem check_fresh (g : Nat) (w : World) (h0 : w.cell? ⟨g, 0, none⟩ = some (.pointer none)) (hsh : w.shape? g = some (83, 2)) (hz : w.frozen? ⟨g, 0, none⟩ = false) :
    Calls Tryd.prog 69 #[.pointer (some ⟨g, 0, none⟩)] w fun e w' => e = .returned (.tuple #[]) ∧ w' = w.setCell ⟨g, 0, none⟩ (.pointer (some ⟨g, 0, none⟩)) := by
  obtain ⟨j, hj, hjs⟩ := infoB
  have h1 := Lib.run_to_unsafe (P := Tryd.prog) w ⟨g, 0, none⟩ Tryd.underlying81 Tryd.underlying111 hj (by rw [hjs]; decide) hsh (Nat.zero_lt_succ 1)
  have h2 : (callFunc 79 #[.pointer (some ⟨g, 0, none⟩)]).run Tryd.prog w = .ok (.value (.pointer (some ⟨g, 0, none⟩))) w := by
    rw [run_callFunc_extern Tryd.func79 (by kernel_rfl) (by kernel_rfl) (by kernel_rfl) (e := Extern.AbiNoEscape.same) (by kernel_rfl), Lib.run_noEscape]
    rfl
  have h3 := Lib.run_from_unsafe (P := Tryd.prog) w ⟨g, 0, none⟩ Tryd.underlying111 Tryd.underlying81 hj hsh lies
  go_enter Tryd.func69, Tryd.ntmps69
  go_wp2
  go_end0
  exact ⟨rfl, rfl⟩

theorem check_any (B g : Nat) (bs : List Value) (w : World) (h : Lib.IsBuilder 83 5 B g bs w) :
    Calls Tryd.prog 69 #[.pointer (some ⟨g, 0, none⟩)] w fun e w' => e = .returned (.tuple #[]) ∧ Lib.BuilderAt 83 5 B g (.pointer (some ⟨g, 0, none⟩)) bs w' ∧ Below B w w' ∧ w.grownBy w' (some g) := by
  rcases h with h | h
  · refine (check_fresh g w h.cell0 h.shape h.frozen0).mono ?_
    rintro e w' ⟨rfl, rfl⟩
    exact ⟨rfl, h.used _, (Below.refl B w).setCell (p := ⟨g, 0, none⟩) h.1 _, grew_cell _ _ _ _⟩
  · refine (check_used g w h.cell0).mono ?_
    rintro e w' ⟨rfl, rfl⟩
    exact ⟨rfl, h, Below.refl B _, grew_refl _ _⟩

/-- what is no row of bytes and not the builder stays -/
def Others (g : Nat) (w w' : World) : Prop := ∀ k o, w.heap[k]? = some o → k ≠ g → (∀ cs fr, o ≠ .cells cs 5 fr) → w'.heap[k]? = some o

set_option maxRecDepth 100000 in
theorem write_any (B g : Nat) (acc : List UInt8) (s : ByteArray) (w : World) (h : Lib.IsBuilder 83 5 B g (acc.map byteV) w) (hl : acc.length ≤ 1048576) (hs : s.size ≤ 1048576) (hB : B ≤ w.heap.size) :
    Calls Tryd.prog 54 #[.pointer (some ⟨g, 0, none⟩), .string s] w fun e w' => e = .returned (.tuple #[.int .i64 s.size, .nilIface]) ∧ Lib.IsBuilder 83 5 B g ((acc ++ s.data.toList).map byteV) w' ∧ Below B w w' ∧ Others g w w' := by
  have HC := mkHid (check_any B g _ w h)
  have hsi : (s.size : Int) ≤ 1048576 := by omega
  clear h
  go_enter Tryd.func54, Tryd.ntmps54
  go_wp2_with fail
  refine HC.out.mono ?_
  rintro e w1 ⟨rfl, ⟨hBg, v, hb, hown, hne⟩, hb1, hgg⟩
  obtain ⟨i0, hi, hz0, hz1, hz2⟩ := info_parts info8
  rw [List.length_map] at hown
  obtain ⟨v', w2, hrun, hown2, hgr, _⟩ := Lib.run_append_own_string (P := Tryd.prog) w1 B 71 9 71 5 i0 Tryd.underlying71 Tryd.underlying9 hi hz0 hz1 hz2 v acc.length (acc.map byteV) hown s (by unfold maxLen; omega) (by omega) (Nat.le_trans hB hb1.size)
  have hrun' : (appSem #[71, 9] 71 #[v, .string s]).run Tryd.prog w1 = .ok v' w2 := hrun
  obtain ⟨ao, n', cap, rfl⟩ : ∃ ao n' cap, v = .slice ao n' cap := by
    rcases hown.2 with ⟨hv, _⟩ | ⟨x, cap, cur, hv, _⟩
    · exact ⟨_, _, _, hv⟩
    · exact ⟨_, _, _, hv⟩
  obtain ⟨ao', m', cap', rfl⟩ : ∃ ao n' cap, v' = .slice ao n' cap := by
    rcases hown2.2 with ⟨hv, _⟩ | ⟨x, cap, cur, hv, _⟩
    · exact ⟨_, _, _, hv⟩
    · exact ⟨_, _, _, hv⟩
  have hb2 : w2.heap[g]? = some (.cells #[.pointer (some ⟨g, 0, none⟩), .slice ao n' cap] 83 (0, 0)) := (hgr.block g (Array.getElem?_eq_some_iff.1 hb).1 (fun e => hne e.symm)).trans hb
  have c1 := (cel2 hb).2
  have d1 := (cel2 hb2).2
  have f1 := unfrozen hb2 1
  have HO : Others g w (w2.setCell ⟨g, 1, none⟩ (.slice ao' m' cap')) := by
    intro k o hk hkg hno
    have hk1 : w1.heap[k]? = some o := (hgg.block k (Array.getElem?_eq_some_iff.1 hk).1 (by simpa using hkg)).trans hk
    have hk2 : w2.heap[k]? = some o := (hgr.block k (Array.getElem?_eq_some_iff.1 hk1).1 (fun e => by
      rcases hown.2 with ⟨hv, _⟩ | ⟨x, cp, cur, hv, _, hx, _⟩
      · rw [hv] at e
        cases e
      · rw [hv] at e
        obtain rfl : k = x := by simpa [Value.ownBlock] using e
        rw [hk1] at hx
        exact hno _ _ (Option.some.inj hx))).trans hk1
    exact blk_set hk2 _ _ hkg
  have N : Hid (Lib.IsBuilder 83 5 B g ((acc ++ s.data.toList).map byteV) (w2.setCell ⟨g, 1, none⟩ (.slice ao' m' cap')) ∧ Below B w (w2.setCell ⟨g, 1, none⟩ (.slice ao' m' cap')) ∧ Others g w (w2.setCell ⟨g, 1, none⟩ (.slice ao' m' cap'))) :=
    mkHid ⟨.inr (Lib.BuilderAt.put (T := 83) (e := 5) hBg hb2 (bs' := (acc ++ s.data.toList).map byteV) (by
      have hsz : s.data.toList.length = s.size := by rw [Array.length_toList]; rfl
      rw [List.length_map, List.length_append, hsz, List.map_append]
      exact hown2) (by decide)), (hb1.grown hgr (Nat.le_trans hB hb1.size) (fun k hk => (hown.lt k hk).1)).setCell (p := ⟨g, 1, none⟩) hBg _, HO⟩
  clear hrun hown hown2 hgr hb hb1 hb2 hne HC
  go_wp2
  exact bodyPost_ret (v := .tuple #[.int .i64 s.size, .nilIface]) (by simp [results, Tryd.results54, go_sem]) rfl ⟨rfl, N.out.1, N.out.2.1, N.out.2.2⟩

set_option maxRecDepth 100000 in
theorem len_any (B g : Nat) (acc : List UInt8) (w : World) (h : Lib.IsBuilder 83 5 B g (acc.map byteV) w) :
    Calls Tryd.prog 56 #[.pointer (some ⟨g, 0, none⟩)] w fun e w' => e = .returned (.int .i64 acc.length) ∧ w' = w := by
  obtain ⟨p, hB, v, hbk, hown, hne⟩ : ∃ p, Lib.BuilderAt 83 5 B g p (acc.map byteV) w := by
    rcases h with h | h
    · exact ⟨_, h⟩
    · exact ⟨_, h⟩
  rw [List.length_map] at hown
  obtain ⟨ao, cap, rfl⟩ : ∃ ao cap, v = .slice ao acc.length cap := by
    rcases hown.2 with ⟨hv, h0⟩ | ⟨x, cap, cur, hv, _⟩
    · exact ⟨none, 0, by rw [hv, h0]⟩
    · exact ⟨_, _, hv⟩
  have c1 := (cel2 hbk).2
  go_enter Tryd.func56, Tryd.ntmps56
  go_wp2
  go_ret
  exact ⟨rfl, rfl⟩

set_option maxRecDepth 100000 in
theorem str_some (B g : Nat) (acc : List UInt8) (w : World) (h : Lib.IsBuilder 83 5 B g (acc.map byteV) w) (h0 : acc ≠ []) :
    Calls Tryd.prog 57 #[.pointer (some ⟨g, 0, none⟩)] w fun e w' => e = .returned (.string ⟨acc.toArray⟩) ∧ Below B w w' := by
  obtain ⟨p, hB, v, hbk, hown, hne⟩ : ∃ p, Lib.BuilderAt 83 5 B g p (acc.map byteV) w := by
    rcases h with h | h
    · exact ⟨_, h⟩
    · exact ⟨_, h⟩
  rw [List.length_map] at hown
  have hl0 : acc.length ≠ 0 := by simpa using h0
  have hown' := hown
  rcases hown.2 with ⟨_, hz⟩ | ⟨x, cap, cur, rfl, hbg, hg, hnc, hcm, hcs, htake⟩
  · exact absurd hz hl0
  have hSD : ∀ W : World, (Builtin.unsafeSliceData_ #[71] 101 #[.slice (some ⟨x, 0, none⟩) acc.length cap]).run Tryd.prog W = .ok (.pointer (some ⟨x, 0, none⟩)) W := fun W => Lib.run_unsafeSliceData_row _ _ _ _ _ _ (by omega)
  have hUS : (Builtin.unsafeString_ #[101, 3] 9 #[.pointer (some ⟨x, 0, none⟩), .int .i64 acc.length]).run Tryd.prog w.drew = .ok (.string ⟨acc.toArray⟩) (w.drew.freeze ⟨x, 0, none⟩ acc.length) := by
    refine Lib.run_unsafeString_row w.drew 101 3 9 5 Tryd.underlying101 (by kernel_rfl) x cur.size (by have hg' : w.drew.heap[x]? = some (.cells cur 5 (0, 0)) := hg; simp [World.shape?, hg']) acc h0 (by omega) (by unfold maxLen at hcm; omega) ?_
    intro j y hy
    exact hown'.cells (g := x) rfl j (.int .u8 y.toNat) (by simp [byteV, hy])
  have c1 := (cel2 hbk).2
  go_enter Tryd.func57, Tryd.ntmps57
  go_wp2_with fail
  go_region
  all_goals go_wp2
  all_goals go_ret
  all_goals exact ⟨rfl, Lib.below_freeze (Below.drew (Below.refl B w)) (p := ⟨x, 0, none⟩) hbg _⟩

set_option maxRecDepth 100000 in
theorem str_nil (B g : Nat) (p : Value) (w : World) (hbk : w.heap[g]? = some (.cells #[p, .slice none 0 0] 83 (0, 0))) :
    Calls Tryd.prog 57 #[.pointer (some ⟨g, 0, none⟩)] w fun e w' => e = .returned (.string ⟨#[]⟩) ∧ Below B w w' := by
  have hSD : ∀ W : World, (Builtin.unsafeSliceData_ #[71] 101 #[.slice none 0 0]).run Tryd.prog W = .ok (.pointer none) W := fun W => rfl
  have hUS : ∀ W : World, (Builtin.unsafeString_ #[101, 3] 9 #[.pointer none, .int .i64 0]).run Tryd.prog W = .ok (.string .empty) W := fun W => Lib.run_unsafeString_none W _ _ _ none
  have c1 := (cel2 hbk).2
  go_enter Tryd.func57, Tryd.ntmps57
  go_wp2_with fail
  go_region
  all_goals go_wp2
  all_goals go_ret
  all_goals exact ⟨rfl, Below.drew (Below.refl B w)⟩
end Go.Proofs.YtlmhdebjmkcanabDoor.bld
namespace Go.Proofs.YtlmhdebjmkcanabDoor.pack
open Go.RowKit Go.Maps
set_option linter.unusedVariables false

def keyL (t : ByteArray) : Lit := .string t.data.toList
theorem keyL_inj {a b : ByteArray} (h : keyL a = keyL b) : a = b := by
  unfold keyL at h
  have h' : a.data.toList = b.data.toList := by injection h
  exact ByteArray.ext (Array.toList_inj.1 h')
theorem keyL_any (t : ByteArray) (L : List ByteArray) : ((L.map keyL).any (fun y => y.sameKey (keyL t)) = true) ↔ t ∈ L := by
  rw [List.any_eq_true]
  constructor
  · rintro ⟨y, hy, hs⟩
    obtain ⟨a, ha, rfl⟩ := List.mem_map.1 hy
    by_cases e : keyL a = keyL t
    · rw [← keyL_inj e]
      exact ha
    · rw [sameKey_ne e] at hs
      cases hs
  · intro h
    exact ⟨keyL t, List.mem_map_of_mem h, WideAt.sameKey_self trivial⟩
theorem add_one (L : List ByteArray) (t : ByteArray) : (t ∈ L → addKey (L.map keyL) (keyL t) = L.map keyL) ∧ (t ∉ L → addKey (L.map keyL) (keyL t) = (L ++ [t]).map keyL) := by
  constructor
  · intro h
    unfold addKey
    rw [if_pos ((keyL_any t L).2 h)]
  · intro h
    unfold addKey
    rw [if_neg (fun e => h ((keyL_any t L).1 e)), List.map_append]
    rfl
theorem add_le : ∀ (xs L : List ByteArray), ((xs.map keyL).foldl addKey (L.map keyL)).length ≤ L.length + xs.length
  | [], L => by simp
  | t :: r, L => by
    rw [List.map_cons, List.foldl_cons]
    by_cases h : t ∈ L
    · rw [(add_one L t).1 h]
      have := add_le r L
      simp only [List.length_cons]
      omega
    · rw [(add_one L t).2 h]
      have := add_le r (L ++ [t])
      simp only [List.length_append, List.length_cons, List.length_nil] at this ⊢
      omega
theorem add_eq : ∀ (xs L : List ByteArray), ((xs.map keyL).foldl addKey (L.map keyL)).length = L.length + xs.length ↔ (xs.Nodup ∧ ∀ x ∈ xs, x ∉ L)
  | [], L => by simp
  | t :: r, L => by
    rw [List.map_cons, List.foldl_cons]
    by_cases h : t ∈ L
    · rw [(add_one L t).1 h]
      have := add_le r L
      constructor
      · intro e
        simp only [List.length_cons] at e
        omega
      · intro e
        exact absurd h (e.2 t (List.mem_cons_self ..))
    · rw [(add_one L t).2 h]
      have ih := add_eq r (L ++ [t])
      have e1 : (L ++ [t]).length + r.length = L.length + (t :: r).length := by simp only [List.length_append, List.length_cons, List.length_nil]; omega
      rw [← e1, ih, List.nodup_cons]
      constructor
      · rintro ⟨h1, h2⟩
        refine ⟨⟨fun ht => h2 t ht (by simp), h1⟩, ?_⟩
        intro x hx
        rcases List.mem_cons.1 hx with rfl | hx
        · exact h
        · exact fun hL => h2 x hx (by simp [hL])
      · rintro ⟨⟨h1, h2⟩, h3⟩
        refine ⟨h2, fun x hx hm => ?_⟩
        rcases List.mem_append.1 hm with hm | hm
        · exact h3 x (List.mem_cons_of_mem _ hx) hm
        · simp at hm
          subst hm
          exact h1 hx
def setT {H : Type} (xs : List ByteArray) : DataW H := setOf (.agg []) (xs.map keyL)
theorem setT_nil {H : Type} : setT (H := H) [] = .map [] := rfl
theorem setT_snoc {H : Type} (xs : List ByteArray) (t : ByteArray) : setT (H := H) (xs ++ [t]) = (setT xs).put (keyL t) (.agg []) := by
  unfold setT
  rw [List.map_append]
  exact setOf_snoc _ _ _
theorem setT_size {H : Type} (xs : List ByteArray) : Maps.size (setT (H := H) xs) ≤ xs.length ∧ (Maps.size (setT (H := H) xs) = xs.length ↔ xs.Nodup) := by
  have h : Maps.size (setT (H := H) xs) = ((xs.map keyL).foldl addKey []).length := size_setOf _ _ (fun x hx => by obtain ⟨a, _, rfl⟩ := List.mem_map.1 hx; trivial)
  have h1 := add_le xs []
  have h2 := add_eq xs []
  simp only [List.map_nil, List.length_nil, Nat.zero_add] at h1 h2
  rw [h]
  exact ⟨h1, by rw [h2]; simp⟩
end Go.Proofs.YtlmhdebjmkcanabDoor.pack
namespace Go.Proofs.YtlmhdebjmkcanabDoor.pack
open Go.RowKit Go.Joins
open Go.Proofs.YtlmhdebjmkcanabDoor.base Go.Proofs.YtlmhdebjmkcanabDoor.blk Go.Proofs.YtlmhdebjmkcanabDoor.aid
open Go.Proofs.YtlmhdebjmkcanabDoor.row (bl en Rd Own OwnV)
open Go.Proofs.YtlmhdebjmkcanabDoor.sha (GV)
open Go.Maps Go.WideMaps
set_option linter.unusedVariables false

theorem isB_next {B g : Nat} {bs : List Value} {W W' : World} (h : Lib.IsBuilder 83 5 B g bs W) (hg : W.grownBy W' none) : Lib.IsBuilder 83 5 B g bs W' := by
  have aux : ∀ p, Lib.BuilderAt 83 5 B g p bs W → Lib.BuilderAt 83 5 B g p bs W' := by
    rintro p ⟨hB, v, hb, hown, hne⟩
    refine ⟨hB, v, (hg.block g (Array.getElem?_eq_some_iff.1 hb).1 (by simp)).trans hb, hown.kept hg ?_, hne⟩
    by_cases hn : v.ownBlock = none
    · exact .inl hn
    · exact .inr hn
  exact h.imp (aux _) (aux _)
theorem isB_map {B g m : Nat} {bs : List Value} {W W' : World} {es : Array MapEntry} {ck : Nat} (h : Lib.IsBuilder 83 5 B g bs W) (hm : W.heap[m]? = some (.map es ck)) (hgm : g ≠ m) (hg : W.grownBy W' (some m)) : Lib.IsBuilder 83 5 B g bs W' := by
  have aux : ∀ p, Lib.BuilderAt 83 5 B g p bs W → Lib.BuilderAt 83 5 B g p bs W' := by
    rintro p ⟨hB, v, hb, hown, hne⟩
    refine ⟨hB, v, (hg.block g (Array.getElem?_eq_some_iff.1 hb).1 (by simpa using hgm)).trans hb, hown.kept hg ?_, hne⟩
    by_cases hn : v.ownBlock = none
    · exact .inl hn
    · refine .inr (fun e => ?_)
      rcases hown.2 with ⟨hv, _⟩ | ⟨x, cp, cur, hv, _, hx, _⟩
      · rw [hv] at e
        cases e
      · rw [hv] at e
        obtain rfl : x = m := by simpa [Value.ownBlock] using e
        rw [hm] at hx
        cases hx
  exact h.imp (aux _) (aux _)
/-- between two rounds of the program's PackBytes -/
structure Pi (w : World) (l : List (Int × ByteArray)) (k : Nat) (W : World) : Prop where
  below : Below w.heap.size w W
  right : ∀ b ∈ l.take k, bRight b = true
  bld : Lib.IsBuilder 83 5 w.heap.size w.heap.size ((recsL (l.take k)).map byteV) W
  mp : W.ownsMap Tryd.prog 9 (unitElem (H := Unit)) (w.heap.size + 1) k (setT ((l.take k).map bKey))
theorem Pi.next {w W W' : World} {l : List (Int × ByteArray)} {k : Nat} (h : Pi w l k W) (hb : Below W.heap.size W W') : Pi w l k W' :=
  ⟨h.below.trans (hb.mono h.below.size), h.right, isB_next h.bld ⟨hb.os, hb.tape, hb.output, hb.size, fun k hk _ => hb.block k hk⟩, h.mp.kept (row := none) ⟨hb.os, hb.tape, hb.output, hb.size, fun k hk _ => hb.block k hk⟩ (by simp)⟩
/-- .. when the key stands there, the record not yet -/
structure Pk (w : World) (l : List (Int × ByteArray)) (k : Nat) (W : World) : Prop where
  below : Below w.heap.size w W
  right : ∀ b ∈ l.take (k + 1), bRight b = true
  bld : Lib.IsBuilder 83 5 w.heap.size w.heap.size ((recsL (l.take k)).map byteV) W
  mp : W.ownsMap Tryd.prog 9 (unitElem (H := Unit)) (w.heap.size + 1) (k + 1) (setT ((l.take (k + 1)).map bKey))
theorem Pk.next {w W W' : World} {l : List (Int × ByteArray)} {k : Nat} (h : Pk w l k W) (hb : Below W.heap.size W W') : Pk w l k W' :=
  ⟨h.below.trans (hb.mono h.below.size), h.right, isB_next h.bld ⟨hb.os, hb.tape, hb.output, hb.size, fun k hk _ => hb.block k hk⟩, h.mp.kept (row := none) ⟨hb.os, hb.tape, hb.output, hb.size, fun k hk _ => hb.block k hk⟩ (by simp)⟩
theorem take_next {l : List (Int × ByteArray)} {k : Nat} {b : Int × ByteArray} (hx : l[k]? = some b) : l.take (k + 1) = l.take k ++ [b] := by rw [List.take_add_one, hx]; rfl
theorem Pi.put {w W W' : World} {l : List (Int × ByteArray)} {k : Nat} {b : Int × ByteArray} (h : Pi w l k W) (hx : l[k]? = some b) (hr : bRight b = true) (h1 : W'.ownsMap Tryd.prog 9 (unitElem (H := Unit)) (w.heap.size + 1) (k + 1) ((setT ((l.take k).map bKey)).put (keyL (bKey b)) (.agg []))) (hg : W.grownBy W' (some (w.heap.size + 1))) : Pk w l k W' := by
  obtain ⟨es, ck, hm, _⟩ := h.mp
  refine ⟨below_of_grew h.below h.below.size hg (by omega), ?_, isB_map h.bld hm (by omega) hg, ?_⟩
  · intro x hx'
    rw [take_next hx] at hx'
    rcases List.mem_append.1 hx' with h' | h'
    · exact h.right x h'
    · simp at h'; subst h'; exact hr
  · rw [take_next hx, List.map_append]
    show W'.ownsMap _ _ _ _ _ (setT (_ ++ [bKey b]))
    rw [setT_snoc]
    exact h1
theorem Pk.put {w W W' : World} {l : List (Int × ByteArray)} {k : Nat} {b : Int × ByteArray} (h : Pk w l k W) (hx : l[k]? = some b) (h1 : Lib.IsBuilder 83 5 w.heap.size w.heap.size ((recsL (l.take k) ++ (recd b).data.toList).map byteV) W') (h2 : Below w.heap.size W W') (h3 : bld.Others w.heap.size W W') : Pi w l (k + 1) W' := by
  refine ⟨h.below.trans h2, h.right, ?_, ?_⟩
  · rw [take_next hx, recsL_snoc]
    exact h1
  · obtain ⟨es, ck, hm, r⟩ := h.mp
    exact ⟨es, ck, h3 _ _ hm (by omega) (fun cs fr e => by cases e), r⟩
theorem pk_drew {w W : World} {l : List (Int × ByteArray)} {k : Nat} (h : Pk w l k W) : Pk w l k W.drew := ⟨h.below.drew, h.right, h.bld, h.mp⟩
theorem below_re {B : Nat} {W W' : World} (h : Below B W.drew W') : Below B W W' := ⟨h.os, h.tape, h.output, h.size, h.block⟩
theorem isB_heap {B g : Nat} {bs : List Value} {W W' : World} (h : Lib.IsBuilder 83 5 B g bs W) (e : W'.heap = W.heap) : Lib.IsBuilder 83 5 B g bs W' := by
  have aux : ∀ p, Lib.BuilderAt 83 5 B g p bs W → Lib.BuilderAt 83 5 B g p bs W' := by
    rintro p ⟨hB, v, hb, hown, hne⟩
    refine ⟨hB, v, by rw [e]; exact hb, ?_, hne⟩
    unfold World.ownsRow at hown ⊢
    rw [e]
    exact hown
  exact h.imp (aux _) (aux _)
theorem law9 : Keyed Tryd.prog 9 := string_keyed Tryd.underlying9

set_option maxRecDepth 100000 in
set_option maxHeartbeats 2000000 in
theorem bytes_in (a : Option Addr) (c : Nat) (l : List (Int × ByteArray)) (w : World) (hl : l.length ≤ 40) (hl0 : l ≠ []) (hr : Rd w a (bl l)) (I : himpl.IDigest) (hG : GV w) :
    Calls Tryd.prog 41 #[.slice a l.length c] w fun e w' => e = .returned (.string (packB l)) ∧ Below w.heap.size w w' := by
  have hmm := @run_makeMap Tryd.prog
  have h1 : (l.length : Int) ≤ 40 := by omega
  have HK := mkHid (fun (bk : Int) (bt : ByteArray) wx (hb : Below w.heap.size w wx) => key_impl bk bt wx I (hG.below hb hG.lt))
  clear I hG
  go_enter Tryd.func41, Tryd.ntmps41
  go_wp2_with fail
  go_loopw [14] (fun i wr => ∃ k : Nat, k ≤ l.length ∧ i = .int .i64 k ∧ Hid (Pi w l k wr))
    (fun i _ => l.length - (intOf i).toNat)
  case atStart =>
    exact ⟨0, Nat.zero_le _, rfl, mkHid ⟨(below_alloc1 w _).alloc (by simp) _, by simp, isB_next (Lib.fresh_isBuilder 83 5 w) (World.grownBy_alloc _ _ _), by
      have h := World.ownsMap_made (w.alloc (.cells #[.pointer none, .slice none 0 0] 83)) Tryd.prog 9 (unitElem (H := Unit))
      simpa [setT_nil] using h⟩⟩
  case round =>
    obtain ⟨k, hk, rfl, hP⟩ := hrel
    by_cases hlt : k < l.length
    · have hlti : (k : Int) < (l.length : Int) := by omega
      obtain ⟨⟨bk, bt⟩, hx⟩ : ∃ z, l[k]? = some z := ⟨_, List.getElem?_eq_getElem hlt⟩
      obtain ⟨g1, o1, rfl, c1, c2, l1⟩ := hr.blob hx
      have e1 := (hP.out.below.cell (p := ⟨g1, o1 + k * 2, none⟩) l1).trans c1
      have e2 := (hP.out.below.cell (p := ⟨g1, o1 + k * 2 + 1, none⟩) l1).trans c2
      have HR := mkHid (fun wx => right_impl bk bt wx)
      have HX := mkHid hx
      clear c1 c2 hx hr
      go_wp2_with fail
      refine (HR.out _).mono ?_
      rintro e w1 ⟨rfl, hb1⟩
      have P1 := mkHid (And.intro ((hP.out.next (below_alloc1 wr (.cells #[.int .i64 bk, .string bt] 37))).next hb1) (And.intro (blk_below (blk_new wr (.cells #[.int .i64 bk, .string bt] 37) wr.heap.size rfl) hb1) (show w.heap.size + 1 < wr.heap.size from hP.out.mp.lt)))
      clear hb1 hP HR e1 e2
      cases hR : bRight (bk, bt)
      · have E : Hid (packB l = ⟨#[]⟩) := mkHid ((packB_empty l).2 (pack_bad HX.out hR))
        go_wp2
        go_ret
        exact ⟨ret_eq (by rw [E.out]; rfl), P1.out.1.below⟩
      · obtain ⟨f0, f1⟩ := cel2 P1.out.2.1
        go_wp2_with fail
        refine (HK.out bk bt _ P1.out.1.below).mono ?_
        rintro e w2 ⟨rfl, hb2⟩
        have P2 := mkHid (And.intro (P1.out.1.next hb2) (And.intro (blk_below P1.out.2.1 hb2) P1.out.2.2))
        have hown := P2.out.1.mp
        have hkey : keyOf Tryd.prog 9 (.string (bKey (bk, bt))) = some (keyL (bKey (bk, bt))) := keyOf_string_mk Tryd.underlying9 (by rw [bKey_size hR]; unfold maxLen; omega)
        clear hb2 P1 f0 f1
        go_wp2_with (first
          | (at_mapUpdate; refine wpList_mapUpdate_own _ rfl _ _ _ 84 rfl 9 85 law9 Tryd.underlying84 (unitElem (H := Unit)) (w.heap.size + 1) k _ rfl hown (by unfold maxLen; omega) _ _ _ rfl rfl hkey _ [] unitElem_mk ?_; intro w3 hown3 hgr3)
          | fail)
        have P3 := mkHid (And.intro (P2.out.1.put HX.out hR hown3 hgr3) ((hgr3.block wr.heap.size (Array.getElem?_eq_some_iff.1 P2.out.2.1).1 (by have := P2.out.2.2; simp; omega)).trans P2.out.2.1))
        have HWR := mkHid P2.out.2.2
        clear hown hown3 hgr3 P2 hkey HK
        obtain ⟨hb1, hb2⟩ := bRight_parts hR
        simp only at hb1 hb2
        have hk1 := bKey_size hR
        have hk2 := numB_size hR
        have hk3 := pre_small hb2
        have HN := mkHid (fun wx => num_impl bk wx (by omega) (by omega))
        have HT := mkHid (fun wx => fnExactPutText.impl_any bt wx (by omega))
        have hlr := (recsL_len (l.take k) (fun b hb => P3.out.1.right b (by rw [take_next HX.out]; exact List.mem_append_left _ hb))).1
        have hlk : (l.take k).length ≤ 40 := by simp; omega
        have hrd := (recd_bd hR).1
        have HW := mkHid (fun wx (hb : Pk w l k wx) => bld.write_any w.heap.size w.heap.size (recsL (l.take k)) (recd (bk, bt)) wx hb.bld (by omega) (by omega) hb.below.size)
        have E : recd (bk, bt) = ⟨#[66]⟩ ++ bKey (bk, bt) ++ numB bk ++ (fnExactPutText.pre bt.size ++ bt) := rfl
        have HPut := mkHid (fun wx wy (hp : Pk w l k wx) => hp.put (W' := wy) HX.out)
        rw [E] at HW HPut
        have hp : (fnExactPutText.pre bt.size ++ bt).size ≤ 2002 := by rw [ByteArray.size_append]; omega
        generalize fnExactPutText.pre bt.size ++ bt = pt at *
        simp only at hk2
        generalize numB bk = nk at *
        generalize bKey (bk, bt) = ky at *
        have s0 : (⟨#[66]⟩ : ByteArray).size = 1 := rfl
        have a1 : (9223372036854775807 < (⟨#[66]⟩ : ByteArray).size + ky.size) = False := by simp; omega
        have a2 : (9223372036854775807 < ((⟨#[66]⟩ : ByteArray) ++ ky).size + nk.size) = False := by simp [ByteArray.size_append]; omega
        have a3 : (9223372036854775807 < ((⟨#[66]⟩ : ByteArray) ++ ky ++ nk).size + pt.size) = False := by simp [ByteArray.size_append]; omega
        have d1 := fun wx => run_string_add_sum (P := Tryd.prog) wx ⟨#[66]⟩ ky (by omega)
        have d2 := fun wx => run_string_add_sum (P := Tryd.prog) wx (⟨#[66]⟩ ++ ky) nk (by rw [ByteArray.size_append]; omega)
        have d3 := fun wx => run_string_add_sum (P := Tryd.prog) wx (⟨#[66]⟩ ++ ky ++ nk) pt (by rw [ByteArray.size_append, ByteArray.size_append]; omega)
        obtain ⟨c0, c1⟩ := cel2 P3.out.2
        clear hb1 hb2 hk1 hk2 hk3 hp s0 hR E hlr hlk hrd
        go_region_held3 (fun w' => w'.cell? ⟨wr.heap.size, 0, none⟩ = some (.int .i64 bk) ∧ w'.cell? ⟨wr.heap.size, 1, none⟩ = some (.string bt)) (go_keep)
          ((first
            | (go_at_call 48; refine Calls.mono (HN.out _) ?_; rintro e w4 ⟨rfl, hb4⟩; have r4 := re (w := w3) hb4 rfl rfl rfl rfl; have P4 := mkHid (And.intro (P3.out.1.next r4) (blk_below P3.out.2 r4)); obtain ⟨e0, e1⟩ := cel2 P4.out.2; clear hb4 r4)
            | (go_at_call 55; refine Calls.mono (HT.out _) ?_; rintro e w5 ⟨rfl, hb5⟩; have r5 := re (w := w4) hb5 rfl rfl rfl rfl; have P5 := mkHid (And.intro (P4.out.1.next r5) (blk_below P4.out.2 r5)); obtain ⟨f0, f1⟩ := cel2 P5.out.2; clear hb5 r5)
            | (go_at_call 54; refine Calls.mono (HW.out _ P5.out.1) ?_; rintro e w6 ⟨rfl, hi6, hb6, ho6⟩; have P6 := mkHid (HPut.out w5 w6 P5.out.1 hi6 hb6 ho6); have y := ho6 wr.heap.size _ P5.out.2 (by have := HWR.out; omega) (fun cs fr e => by cases e); obtain ⟨g0, g1⟩ := cel2 y; clear hi6 hb6 ho6)))
        clear c0 c1 e0 e1 f0 f1 g0 g1 y P3 P4 P5 HW HPut HN HT HX a1 a2 a3 d1 d2 d3 HWR
        go_wp2
        go_roundw
        case rel => exact ⟨k + 1, by omega, by go_num, P6⟩
        case measure => simp [intOf]; omega
    · obtain rfl : k = l.length := by omega
      have ht : l.take l.length = l := List.take_of_length_le (Nat.le_refl _)
      have hown := hP.out.mp
      have hI := hP.out.bld
      rw [ht] at hown hI
      have HL := mkHid (fun wx (hb : wx.heap = wr.heap) => bld.len_any w.heap.size w.heap.size (recsL l) wx (by exact isB_heap hI hb))
      have hS := setT_size (H := Unit) (l.map bKey)
      rw [List.length_map] at hS
      have HRt : Hid (∀ b ∈ l, bRight b = true) := mkHid (by have h := hP.out.right; rw [ht] at h; exact h)
      have HB := mkHid hP.out.below
      have HI := mkHid hI
      have hlr := (recsL_len l HRt.out)
      clear hP hI ht hr HK
      by_cases hnd : (l.map bKey).Nodup
      · have hS1 : ((Maps.size (setT (H := Unit) (l.map bKey)) : Nat) : Int) = (l.length : Int) := by have := hS.2.2 hnd; omega
        have hS2 : Maps.size (setT (H := Unit) (l.map bKey)) = l.length := hS.2.2 hnd
        by_cases h12 : (12000 : Int) < ((recsL l).length : Int)
        · have E : Hid (packB l = ⟨#[]⟩) := mkHid ((packB_empty l).2 (decide_eq_false (fun h => by have := h.2.2.2.2; omega)))
          clear hS hnd
          go_wp2_with (first | (at_len; refine wpList_len_own _ rfl _ 84 rfl 9 85 Tryd.underlying84 _ (w.heap.size + 1) l.length _ rfl hown ?_) | fail)
          refine (HL.out _ rfl).mono ?_
          rintro e w1 ⟨rfl, rfl⟩
          go_wp2
          go_ret
          exact ⟨ret_eq (by rw [E.out]; rfl), HB.out⟩
        · have hlt12 : ((recsL l).length : Int) ≤ 12000 := by omega
          · have E : Hid (packB l = ⟨(recsL l).toArray⟩) := mkHid (by
              have hlen : 1 ≤ l.length := by
                cases l with
                | nil => exact absurd rfl hl0
                | cons x r => simp
              have hpk : packR l = true := decide_eq_true ⟨hlen, by omega, HRt.out, hnd, by omega⟩
              unfold packB
              rw [if_pos hpk])
            have hne : recsL l ≠ [] := by
              intro e
              rw [e] at hlr
              have hlen : 1 ≤ l.length := by
                cases l with
                | nil => exact absurd rfl hl0
                | cons x r => simp
              simp only [List.length_nil] at hlr
              omega
            have HSt := mkHid (bld.str_some w.heap.size w.heap.size (recsL l) wr HI.out hne)
            clear hS hnd
            go_wp2_with (first | (at_len; refine wpList_len_own _ rfl _ 84 rfl 9 85 Tryd.underlying84 _ (w.heap.size + 1) l.length _ rfl hown ?_) | fail)
            refine (HL.out _ rfl).mono ?_
            rintro e w1 ⟨rfl, rfl⟩
            go_wp2_with fail
            refine HSt.out.mono ?_
            rintro e w2 ⟨rfl, hb2⟩
            have B2 := mkHid (HB.out.trans hb2)
            clear hb2
            go_wp2
            go_ret
            exact ⟨ret_eq (by rw [E.out]; rfl), B2.out⟩
      · have E : Hid (packB l = ⟨#[]⟩) := mkHid ((packB_empty l).2 (decide_eq_false (fun h => hnd h.2.2.2.1)))
        have hS1 : ((Maps.size (setT (H := Unit) (l.map bKey)) : Nat) : Int) < (l.length : Int) := by
          have h1 := hS.1
          have h2 : Maps.size (setT (H := Unit) (l.map bKey)) ≠ l.length := fun e => hnd (hS.2.1 e)
          omega
        have hS2 : Maps.size (setT (H := Unit) (l.map bKey)) < l.length := by omega
        clear hS hnd
        go_wp2_with (first | (at_len; refine wpList_len_own _ rfl _ 84 rfl 9 85 Tryd.underlying84 _ (w.heap.size + 1) l.length _ rfl hown ?_) | fail)
        go_ret
        exact ⟨ret_eq (by rw [E.out]; rfl), HB.out⟩

set_option maxRecDepth 100000 in
theorem bytes_none (a : Option Addr) (c : Nat) (w : World) :
    Calls Tryd.prog 41 #[.slice a 0 c] w fun e w' => e = .returned (.string ⟨#[]⟩) ∧ Below w.heap.size w w' := by
  have hmm := @run_makeMap Tryd.prog
  have HI : Hid (Lib.IsBuilder 83 5 w.heap.size w.heap.size (([] : List UInt8).map byteV) ((w.alloc (.cells #[.pointer none, .slice none 0 0] 83)).alloc (.map #[] 0))) := mkHid (isB_next (Lib.fresh_isBuilder 83 5 w) (World.grownBy_alloc _ _ _))
  have HL := mkHid (bld.len_any w.heap.size w.heap.size [] _ HI.out)
  have HSt := mkHid (bld.str_nil w.heap.size w.heap.size (.pointer none) ((w.alloc (.cells #[.pointer none, .slice none 0 0] 83)).alloc (.map #[] 0)) (blk_old (blk_new w _ _ rfl) _))
  have hown : ((w.alloc (.cells #[.pointer none, .slice none 0 0] 83)).alloc (.map #[] 0)).ownsMap Tryd.prog 9 (unitElem (H := Unit)) (w.heap.size + 1) 0 (.map []) := by
    have h := World.ownsMap_made (w.alloc (.cells #[.pointer none, .slice none 0 0] 83)) Tryd.prog 9 (unitElem (H := Unit))
    simpa using h
  go_enter Tryd.func41, Tryd.ntmps41
  go_wp2_with fail
  refine wp_loop_rounds 1 ?_
  rw [rounds_succ]
  go_wp2_with (first | (at_len; refine wpList_len_own _ rfl _ 84 rfl 9 85 Tryd.underlying84 _ (w.heap.size + 1) 0 _ rfl hown ?_) | fail)
  refine HL.out.mono ?_
  rintro e w1 ⟨rfl, rfl⟩
  go_wp2_with fail
  refine HSt.out.mono ?_
  rintro e w2 ⟨rfl, hb2⟩
  have B2 := mkHid (((below_alloc1 w (.cells #[.pointer none, .slice none 0 0] 83)).alloc (by simp) (.map #[] 0)).trans hb2)
  clear hb2
  go_wp2
  go_ret
  exact ⟨rfl, B2.out⟩

set_option maxRecDepth 100000 in
theorem bytes_impl (a : Option Addr) (c : Nat) (l : List (Int × ByteArray)) (w : World) (hl : l.length ≤ 1048576) (hr : Rd w a (bl l)) (I : himpl.IDigest) (hG : GV w) :
    Calls Tryd.prog 41 #[.slice a l.length c] w fun e w' => e = .returned (.string (packB l)) ∧ Below w.heap.size w w' := by
  by_cases h40 : (40 : Int) < (l.length : Int)
  · have E : Hid (packB l = ⟨#[]⟩) := mkHid ((packB_empty l).2 (decide_eq_false (fun h => by omega)))
    go_enter Tryd.func41, Tryd.ntmps41
    go_wp2
    go_ret
    exact ⟨ret_eq (by rw [E.out]; rfl), Below.refl _ _⟩
  · by_cases h0 : l = []
    · subst h0
      exact bytes_none a c w
    · exact bytes_in a c l w (by omega) h0 hr I hG

set_option maxRecDepth 100000 in
theorem right_pack (a : Option Addr) (c : Nat) (l : List (Int × ByteArray)) (w : World) (hl : l.length ≤ 1048576) (hr : Rd w a (bl l)) (I : himpl.IDigest) (hG : GV w) :
    Calls Tryd.prog 25 #[.slice a l.length c] w fun e w' => e = .returned (.bool (packR l)) ∧ Below w.heap.size w w' := by
  have HB := mkHid (bytes_impl a c l w hl hr I hG)
  have E : Hid ((!(packB l).toList.isEmpty) = packR l) := mkHid (by
    have h := packB_empty l
    rw [ByteArray.toList_eq]
    cases hp : packR l
    · rw [h.2 hp]
      rfl
    · have hne : ¬ packB l = ⟨#[]⟩ := fun e => by rw [h.1 e] at hp; cases hp
      cases he : (packB l).data.toList.isEmpty
      · rfl
      · exfalso
        apply hne
        apply ByteArray.ext
        apply Array.toList_inj.1
        rw [List.isEmpty_iff.1 he])
  clear I hG hr
  go_enter Tryd.func25, Tryd.ntmps25
  go_wp2_with fail
  refine HB.out.mono ?_
  rintro e w1 ⟨rfl, hb1⟩
  have B1 := mkHid hb1
  clear hb1
  go_wp2
  go_ret
  exact ⟨ret_eq (by rw [← E.out]; rfl), B1.out⟩
end Go.Proofs.YtlmhdebjmkcanabDoor.pack
