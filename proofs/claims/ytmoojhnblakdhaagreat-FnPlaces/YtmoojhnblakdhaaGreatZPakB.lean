/-
  Rows of int64 that may be written, none or in a block of their own, maybe with room behind them: what laws.markInt64S answers and leaves. Conditions: at most 1,048,576 numbers.
  What laws.szHash, toHash, eqHash, markHash and heldHash answer and leave. Conditions: at most 1,048,576 numbers, which lie in memory; numbers that are written lie in a block of their own.
  What the program's HashRight and HashBegin are asked to answer and to leave, as the laws' walks take it. No condition.
  What the program's calls of chapter 6 are asked to answer and to leave, as the laws' walks take it. No condition.
  What spec.BlobRight, spec.BlobKey, impl.BlobRight, impl.BlobKey and laws.szBlob, toBlob, eqBlob answer and leave. Conditions: a text of at most 1,048,576 bytes; for the program's key: the numbers of the rounds are there.
  What spec.l07At is asked to answer and to leave. No condition.
  What the methods refuse, take and number of impl.packReader answer and leave. Condition: the reader lies in a block of its own; a text of at most 20,000 bytes.
  What the method entry of impl.packReader answers and leaves: the record at its place, or a panic that tells that place. Conditions: the reader lies in a block of its own; a text of at most 20,000 bytes; the numbers of the rounds are there.
  What impl.entryAt answers and leaves: the entry of the record at a place, or that there is none; a panic of its reader is recovered. Conditions: a text of at most 20,000 bytes; the numbers of the rounds are there.
  What impl.PackScan answers and leaves: a row of its own of the entries. Conditions: at most 1,048,576 bytes; the numbers of the rounds are there.
  What spec.PackScan and spec.PackRead answer and leave, where spec.l07At and spec.PackRight answer as told. Condition: at most 1,048,576 bytes.
  What spec.l10Of and spec.PlacesOf answer and leave. Conditions: texts of at most 1,048,576 bytes; spec.l07At answers as told.
-/
import Derived.Test.YtmoojhnblakdhaaGreatBlk
import Derived.Test.YtmoojhnblakdhaaGreatZShaA
import Derived.Test.YtmoojhnblakdhaaGreatZShaB
import Derived.Test.YtmoojhnblakdhaaGreatZPakA
import Derived.Test.YtmoojhnblakdhaaGreatAid
import Derived.Test.YtmoojhnblakdhaaGreatZPlaB
import Derived.Test.YtmoojhnblakdhaaGreatZGetO
import Derived.Test.YtmoojhnblakdhaaGreatZTxtA
import Derived.Test.YtmoojhnblakdhaaGreatCells
import Derived.Test.YtmoojhnblakdhaaGreatZPlaA
import Derived.Deep.RegionHeld3
import Derived.Deep.QuietTactic
import Derived.BigQuiet
import Derived.BigRegion
import Derived.WalkLawsBesides
import Derived.Defers
import Derived.Recover
namespace Go.Proofs.YtmoojhnblakdhaaGreat.blk
open Go.RowKit Go.Joins
open Go.Proofs.YtmoojhnblakdhaaGreat.base Go.Proofs.YtmoojhnblakdhaaGreat.ints
set_option linter.unusedVariables false

/-- a row in a block of its own, with room behind it -/
def OwnS (w : World) (g : Nat) (zs : List Int) : Prop := ∃ ex : List Value, w.heap[g]? = some (.cells (zs.map intV ++ ex).toArray 2 (0, 0))
theorem OwnS.of {w : World} {g : Nat} {zs : List Int} (h : Own w g zs) : OwnS w g zs := ⟨[], by simpa [Own] using h⟩
theorem OwnS.lt {w : World} {g : Nat} {zs : List Int} (h : OwnS w g zs) : g < w.heap.size := by
  obtain ⟨ex, h⟩ := h
  exact (Array.getElem?_eq_some_iff.1 h).1
theorem OwnS.block {w w' : World} {g : Nat} {zs : List Int} (h : OwnS w g zs) (hb : w'.heap[g]? = w.heap[g]?) : OwnS w' g zs := by
  obtain ⟨ex, h⟩ := h
  exact ⟨ex, hb.trans h⟩
theorem OwnS.below {w w' : World} {g : Nat} {zs : List Int} (h : OwnS w g zs) (hb : Below w.heap.size w w') : OwnS w' g zs := h.block (hb.block g h.lt)
theorem OwnS.cell {w : World} {g : Nat} {zs : List Int} (h : OwnS w g zs) {i : Nat} {z : Int} (hz : zs[i]? = some z) : w.cell? ⟨g, i, none⟩ = some (.int .i64 z) := by
  obtain ⟨ex, h⟩ := h
  have hi : i < zs.length := (List.getElem?_eq_some_iff.1 hz).1
  rw [cell_of_block h]
  simp [List.getElem?_append, hi, intV]
  exact (List.getElem?_eq_some_iff.1 hz).2
theorem OwnS.free {w : World} {g : Nat} {zs : List Int} (h : OwnS w g zs) (i : Nat) : w.frozen? ⟨g, i, none⟩ = false := by
  obtain ⟨ex, h⟩ := h
  exact unfrozen_of_block h i
theorem OwnS.rd {w : World} {g : Nat} {zs : List Int} (h : OwnS w g zs) : Rd w (some ⟨g, 0, none⟩) zs := by
  intro i z hz
  exact ⟨g, 0, rfl, by simpa using h.cell hz⟩
theorem OwnS.set {w : World} {g : Nat} {zs : List Int} (h : OwnS w g zs) (i : Nat) (hi : i < zs.length) (z : Int) : OwnS (w.setCell ⟨g, i, none⟩ (.int .i64 z)) g (zs.set i z) := by
  obtain ⟨ex, h⟩ := h
  refine ⟨ex, ?_⟩
  rw [block_setCell (i := i) h (.int .i64 z)]
  congr 2
  simp [intV, List.map_set, hi]
theorem OwnS.other {w : World} {g : Nat} {zs : List Int} (h : OwnS w g zs) (p : Addr) (v : Value) (hne : g ≠ p.block) : OwnS (w.setCell p v) g zs := h.block (Below.heap_setCell w p v g hne)
theorem OwnS.owns {w : World} {base g n c : Nat} {zs : List Int} (h : w.ownsRow base 2 1 (.slice (some ⟨g, 0, none⟩) n c) n (zs.map intV)) : OwnS w g zs := by
  obtain ⟨_, h2⟩ := h
  rcases h2 with ⟨e, _⟩ | ⟨g', cap, cur, e, hB, hg, _, _, _, ht⟩
  · cases e
  · simp at e
    obtain ⟨rfl, rfl⟩ := e
    refine ⟨cur.toList.drop (n * 1), ?_⟩
    rw [← ht, List.take_append_drop]
    exact hg

/-- cells that may be written: none, or a block of their own -/
def OwnV (w : World) (a : Option Addr) (zs : List Int) : Prop := (a = none ∧ zs = []) ∨ ∃ g, a = some ⟨g, 0, none⟩ ∧ OwnS w g zs
/-- all that was there stays, but for the block of these cells -/
def GrewV (w w' : World) (a : Option Addr) : Prop := w.grownBy w' (a.map (·.block))
theorem OwnV.rd {w : World} {a : Option Addr} {zs : List Int} (h : OwnV w a zs) : Rd w a zs := by
  rcases h with ⟨rfl, rfl⟩ | ⟨g, rfl, ho⟩
  · exact Rd.nil w
  · exact ho.rd
theorem OwnV.below {w w' : World} {a : Option Addr} {zs : List Int} (h : OwnV w a zs) (hb : Below w.heap.size w w') : OwnV w' a zs := by
  rcases h with ⟨rfl, rfl⟩ | ⟨g, rfl, ho⟩
  · exact .inl ⟨rfl, rfl⟩
  · exact .inr ⟨g, rfl, ho.below hb⟩
theorem OwnV.alloc {w : World} {a : Option Addr} {zs : List Int} (h : OwnV w a zs) (o : Obj) : OwnV (w.alloc o) a zs := h.below ((Below.refl _ _).alloc (Nat.le_refl _) o)
theorem grewV_alloc {w w' : World} {a : Option Addr} {o : Obj} (h : GrewV (w.alloc o) w' a) : GrewV w w' a := grew_trans (World.grownBy_alloc w o _) h

end Go.Proofs.YtmoojhnblakdhaaGreat.blk
namespace Go.Proofs.YtmoojhnblakdhaaGreat.hashes
open Go.RowKit Go.Joins
open Go.Proofs.YtmoojhnblakdhaaGreat.base Go.Proofs.YtmoojhnblakdhaaGreat.ints Go.Proofs.YtmoojhnblakdhaaGreat.blk
open Go.Proofs.YtmoojhnblakdhaaGreat.sha (hash zeroH)
set_option linter.unusedVariables false

theorem val_eq {a b : Value} (h : a = b) : Ending.returned a = Ending.returned b := by rw [h]
theorem bytes_ne {r s : ByteArray} (h : ¬ r = s) : (r.toList == s.toList) = false := by
  rw [ByteArray.toList_eq, ByteArray.toList_eq]
  simp
  intro e
  apply h
  apply ByteArray.ext
  exact e
/-- what is left when a Hash is counted -/
def szv (m : Int) (n l : Nat) : Int := if m - n < 0 then -1 else if m - n - l < 0 then -1 else m - n - l

end Go.Proofs.YtmoojhnblakdhaaGreat.hashes
namespace Go.Proofs.YtmoojhnblakdhaaGreat.himpl
open Go.RowKit Go.Joins
open Go.Proofs.YtmoojhnblakdhaaGreat.base Go.Proofs.YtmoojhnblakdhaaGreat.ints Go.Proofs.YtmoojhnblakdhaaGreat.blk Go.Proofs.YtmoojhnblakdhaaGreat.hashes
open Go.Proofs.YtmoojhnblakdhaaGreat.sha (hRight startL)
set_option linter.unusedVariables false

/-- what is there is new -/
def Fresh (w : World) (a : Option Addr) : Prop := ∀ b o s, a = some ⟨b, o, s⟩ → w.heap.size ≤ b
/-- a Hash of its own is the answer -/
def IPost (w : World) (o : List Int × ByteArray × Int) (e : Ending) (w' : World) : Prop :=
  ∃ a c, e = .returned (sha.hash a o.1.length c o.2.1 o.2.2) ∧ OwnV w' a o.1 ∧ Fresh w a ∧ Below w.heap.size w w'

end Go.Proofs.YtmoojhnblakdhaaGreat.himpl
namespace Go.Proofs.YtmoojhnblakdhaaGreat.himpl
open Go.RowKit Go.Joins
open Go.Proofs.YtmoojhnblakdhaaGreat.base Go.Proofs.YtmoojhnblakdhaaGreat.ints Go.Proofs.YtmoojhnblakdhaaGreat.blk
open Go.Proofs.YtmoojhnblakdhaaGreat.sha (hRight endH digest short moreH startL GV)
set_option linter.unusedVariables false

end Go.Proofs.YtmoojhnblakdhaaGreat.himpl
namespace Go.Proofs.YtmoojhnblakdhaaGreat.pack
open Go.RowKit Go.Joins
open Go.Proofs.YtmoojhnblakdhaaGreat.base Go.Proofs.YtmoojhnblakdhaaGreat.blk Go.Proofs.YtmoojhnblakdhaaGreat.aid
open Go.Proofs.YtmoojhnblakdhaaGreat.sha (digest GV)
set_option linter.unusedVariables false

set_option maxRecDepth 100000 in
theorem right_spec (k : Int) (t : ByteArray) (w : World) :
    Calls Tryz.prog 84 #[.agg #[.int .i64 k, .string t]] w fun e w' => e = .returned (.bool (bRight (k, t))) ∧ Below w.heap.size w w' := by
  go_enter Tryz.func84, Tryz.ntmps84
  go_wp2
  all_goals go_ret
  all_goals exact ⟨ret_eq (by simp [bRight, *] <;> omega), below_alloc1 _ _⟩

theorem num_spec (k : Int) (w : World) (h : 0 ≤ k) (h2 : k ≤ 2000) :
    Calls Tryz.prog 27 #[.int .i64 k] w fun e w' => e = .returned (.string (numB k)) ∧ Below w.heap.size w w' :=
  fnExactPutNum.spec_any k w (by omega) (by omega) (2 * k.toNat) (by unfold fnExactPutNum.fold; rw [if_neg (by omega)]; omega) (by omega)
theorem num_impl (k : Int) (w : World) (h : 0 ≤ k) (h2 : k ≤ 2000) :
    Calls Tryz.prog 24 #[.int .i64 k] w fun e w' => e = .returned (.string (numB k)) ∧ Below w.heap.size w w' :=
  fnExactPutNum.impl_any k w (by omega) (by omega) (2 * k.toNat) (by unfold fnExactPutNum.fold; rw [if_neg (by omega)]; omega) (by omega)

set_option maxRecDepth 100000 in
theorem key_spec (k : Int) (t : ByteArray) (w : World) :
    Calls Tryz.prog 85 #[.agg #[.int .i64 k, .string t]] w fun e w' => e = .returned (.string (bKey (k, t))) ∧ Below w.heap.size w w' := by
  have HR := mkHid (fun wx => right_spec k t wx)
  cases hr : bRight (k, t)
  · rw [hr] at HR
    have E := mkHid (bRight_no hr)
    go_enter Tryz.func85, Tryz.ntmps85
    go_wp2_with fail
    refine (HR.out _).mono ?_
    rintro e w1 ⟨rfl, hb1⟩
    go_wp2
    go_ret
    exact ⟨ret_eq (by rw [E.out]; rfl), below_allocs (os := [_]) hb1⟩
  · rw [hr] at HR
    obtain ⟨h1, h2⟩ := bRight_parts hr
    have h3 := numB_size hr
    have E := mkHid (show bKey (k, t) = digest (numB k ++ t) by unfold bKey; rw [if_pos hr])
    have HN := mkHid (fun wx => num_spec k wx (by simp at h1; omega) (by simp at h1; omega))
    have HD := mkHid (fun wx => sha.digest_any (numB k ++ t) wx (by rw [ByteArray.size_append]; simp at h2 h3; omega))
    have hsum : (numB k).size + t.size ≤ 9223372036854775807 := by simp at h2 h3; omega
    have hadd := fun wx => run_string_add_sum (P := Tryz.prog) wx (numB k) t hsum
    generalize numB k = p at *
    clear h1 h2 h3 hr hsum
    go_enter Tryz.func85, Tryz.ntmps85
    go_wp2_with fail
    refine (HR.out _).mono ?_
    rintro e w1 ⟨rfl, hb1⟩
    have B1 := mkHid (below_allocs (os := [_]) hb1)
    have K1 := mkHid (blk_below (blk_new w (.cells #[.int .i64 k, .string t] 110) w.heap.size rfl) hb1)
    have c0 : w1.cell? ⟨w.heap.size, 0, none⟩ = some (.int .i64 k) := by simp [World.cell?, K1.out]
    have c1 : w1.cell? ⟨w.heap.size, 1, none⟩ = some (.string t) := by simp [World.cell?, K1.out]
    clear hb1 HR
    go_wp2_with fail
    go_region_held3 (fun w' => w'.cell? ⟨w.heap.size, 0, none⟩ = some (.int .i64 k) ∧ w'.cell? ⟨w.heap.size, 1, none⟩ = some (.string t)) (go_keep)
      ((first
        | (go_at_call 27; refine Calls.mono (HN.out _) ?_; rintro e w2 ⟨rfl, hb2⟩; have B2 := mkHid (B1.out.trans ((re (w := w1) hb2 rfl rfl rfl rfl).mono B1.out.size)); have K2 := mkHid (blk_below K1.out (re hb2 rfl rfl rfl rfl)); obtain ⟨a0, a1⟩ := cel2 K2.out; clear hb2)
        | (go_at_call 21; refine Calls.mono (HD.out _) ?_; rintro e w3 ⟨rfl, hb3⟩; have B3 := mkHid (B2.out.trans ((re (w := w2) hb3 rfl rfl rfl rfl).mono B2.out.size)); have K3 := mkHid (blk_below K2.out (re hb3 rfl rfl rfl rfl)); obtain ⟨d0, d1⟩ := cel2 K3.out; clear hb3)))
    go_wp2
    go_ret
    exact ⟨ret_eq (by rw [E.out]; rfl), B3.out⟩
end Go.Proofs.YtmoojhnblakdhaaGreat.pack
namespace Go.Proofs.YtmoojhnblakdhaaGreat.pack
open Go.RowKit Go.Joins
open Go.Proofs.YtmoojhnblakdhaaGreat.base Go.Proofs.YtmoojhnblakdhaaGreat.blk Go.Proofs.YtmoojhnblakdhaaGreat.aid
set_option linter.unusedVariables false

/-- no record is told -/
def ANo (w : World) (e : Ending) (w' : World) : Prop :=
  ∃ (x : ByteArray) (k p n : Int) (k' : Int) (t : ByteArray) (q : Int), e = .returned (.tuple #[.agg #[.string x, .int .i64 k, .int .i64 p, .int .i64 n], .agg #[.int .i64 k', .string t], .int .i64 q, .bool false]) ∧ Below w.heap.size w w'
def AYes (w : World) (s : ByteArray) (a : Nat) (k : Int) (q n : Nat) (e : Ending) (w' : World) : Prop :=
  e = .returned (.tuple #[.agg #[.string (keyAt s a), .int .i64 k, .int .i64 (q : Int), .int .i64 (n : Int)], .agg #[.int .i64 k, .string (s.extract q (q + n))], .int .i64 ((q + n : Nat) : Int), .bool true]) ∧ Below w.heap.size w w'
def APost (w : World) (s : ByteArray) (a : Nat) (e : Ending) (w' : World) : Prop :=
  match recAt s a with
  | none => ANo w e w'
  | some (k, q, n) => AYes w s a k q n e w'
theorem APost.no {w w' : World} {s : ByteArray} {a : Nat} {e : Ending} (h : recAt s a = none) (hp : ANo w e w') : APost w s a e w' := by
  unfold APost
  rw [h]
  exact hp
theorem APost.yes {w w' : World} {s : ByteArray} {a : Nat} {e : Ending} {k : Int} {q n : Nat} (h : recAt s a = some (k, q, n)) (hp : AYes w s a k q n e w') : APost w s a e w' := by
  unfold APost
  rw [h]
  exact hp

def IAt : Prop := ∀ (s : ByteArray) (a : Nat) (w : World), s.size ≤ 20000 → a ≤ s.size → Calls Tryz.prog 104 #[.string s, .int .i64 a] w (APost w s a)
end Go.Proofs.YtmoojhnblakdhaaGreat.pack
namespace Go.Proofs.YtmoojhnblakdhaaGreat.rdr
open Go.RowKit Go.Joins
open Go.Proofs.YtmoojhnblakdhaaGreat.base Go.Proofs.YtmoojhnblakdhaaGreat.blk Go.Proofs.YtmoojhnblakdhaaGreat.aid
set_option linter.unusedVariables false

end Go.Proofs.YtmoojhnblakdhaaGreat.rdr
namespace Go.Proofs.YtmoojhnblakdhaaGreat.rdr
open Go.RowKit Go.Joins
open Go.Proofs.YtmoojhnblakdhaaGreat.base Go.Proofs.YtmoojhnblakdhaaGreat.blk Go.Proofs.YtmoojhnblakdhaaGreat.aid
open Go.Proofs.YtmoojhnblakdhaaGreat.pack (bKey bRight recAt keyAt)
open Go.Proofs.YtmoojhnblakdhaaGreat.sha (digest GV)
set_option linter.unusedVariables false

theorem txt_ne {r s : ByteArray} (h : ¬ r = s) : (r.toList == s.toList) = false := by
  rw [ByteArray.toList_eq, ByteArray.toList_eq]
  simp
  intro e
  apply h
  apply ByteArray.ext
  exact e
/-- the entry that is being made -/
def enO : Obj := .cells #[.string ⟨#[]⟩, .int .i64 0, .int .i64 0, .int .i64 0] 128
structure En (w : World) (g : Nat) (o : Obj) (W : World) : Prop where
  rd : W.heap[g]? = some o
  out : W.heap[w.heap.size]? = some enO
  grew : w.grownBy W (some g)
theorem En.below {w W W' : World} {g : Nat} {o : Obj} (h : En w g o W) (hb : Below W.heap.size W W') : En w g o W' := ⟨blk_below h.rd hb, blk_below h.out hb, grew_below h.grew hb⟩
theorem En.next {w W W' : World} {g : Nat} {o o' : Obj} (h : En w g o W) (hg : W.grownBy W' (some g)) (ho : W'.heap[g]? = some o') (hlt : g < w.heap.size) : En w g o' W' :=
  ⟨ho, (hg.block _ (Array.getElem?_eq_some_iff.1 h.out).1 (by simp; omega)).trans h.out, grew_grew h.grew hg⟩
theorem En.fin {w W : World} {g : Nat} {o : Obj} (h : En w g o W) (hlt : g < w.heap.size) (a b c d : Value) :
    ((((W.setCell ⟨w.heap.size, 0, none⟩ a).setCell ⟨w.heap.size, 1, none⟩ b).setCell ⟨w.heap.size, 2, none⟩ c).setCell ⟨w.heap.size, 3, none⟩ d).heap[g]? = some o ∧
      w.grownBy ((((W.setCell ⟨w.heap.size, 0, none⟩ a).setCell ⟨w.heap.size, 1, none⟩ b).setCell ⟨w.heap.size, 2, none⟩ c).setCell ⟨w.heap.size, 3, none⟩ d) (some g) := by
  have e : ∀ k, k < w.heap.size → ((((W.setCell ⟨w.heap.size, 0, none⟩ a).setCell ⟨w.heap.size, 1, none⟩ b).setCell ⟨w.heap.size, 2, none⟩ c).setCell ⟨w.heap.size, 3, none⟩ d).heap[k]? = W.heap[k]? := fun k hk => by
    rw [Below.heap_setCell _ _ _ k (by simp; omega), Below.heap_setCell _ _ _ k (by simp; omega), Below.heap_setCell _ _ _ k (by simp; omega), Below.heap_setCell _ _ _ k (by simp; omega)]
  exact ⟨(e g hlt).trans h.rd, h.grew.os, h.grew.tape, h.grew.output, by simpa using h.grew.size, fun k hk hne => (e k hk).trans (h.grew.block k hk hne)⟩
theorem gv_grew {w w' : World} {g : Nat} (h : GV w) (hg : w.grownBy w' (some g)) (h0 : 0 < g) : GV w' := fun i hi => by
  rw [World.cell?_of_block (w := w) (a := ⟨0, i, none⟩) (hg.block 0 h.lt (by simp; omega))]
  exact h i hi

theorem mark_is {s : ByteArray} {a : Nat} (h : s.data.toList[a]? = some 66) : s.extract a (a + 1) = ⟨#[66]⟩ := by
  have hl : a < s.data.toList.length := (List.getElem?_eq_some_iff.1 h).1
  apply ByteArray.ext
  rw [ByteArray.data_extract]
  apply Array.ext'
  rw [Array.toList_extract]
  simp only [List.extract_eq_take_drop]
  rw [List.drop_eq_getElem_cons hl]
  have := (List.getElem?_eq_some_iff.1 h).2
  simp [this]
theorem mark_not {s : ByteArray} {a : Nat} (hl : a < s.size) (h : s.data.toList[a]? ≠ some 66) : ¬ s.extract a (a + 1) = ⟨#[66]⟩ := by
  intro e
  apply h
  have hl' : a < s.data.toList.length := by rw [Array.length_toList]; exact hl
  have e2 := congrArg (fun b : ByteArray => b.data.toList) e
  simp only [ByteArray.data_extract, Array.toList_extract, List.extract_eq_take_drop] at e2
  rw [List.drop_eq_getElem_cons hl'] at e2
  simp at e2
  rw [List.getElem?_eq_getElem hl']
  simp [e2]

end Go.Proofs.YtmoojhnblakdhaaGreat.rdr
namespace Go.Proofs.YtmoojhnblakdhaaGreat.rdr
open Go.RowKit Go.Joins
open Go.Proofs.YtmoojhnblakdhaaGreat.base Go.Proofs.YtmoojhnblakdhaaGreat.blk Go.Proofs.YtmoojhnblakdhaaGreat.aid
open Go.Proofs.YtmoojhnblakdhaaGreat.pack (bKey bRight recAt keyAt)
open Go.Proofs.YtmoojhnblakdhaaGreat.sha (digest GV)
set_option linter.unusedVariables false
set_option linter.unusedSimpArgs false

end Go.Proofs.YtmoojhnblakdhaaGreat.rdr
namespace Go.Proofs.YtmoojhnblakdhaaGreat.rdr
open Go.RowKit Go.Joins
open Go.Proofs.YtmoojhnblakdhaaGreat.base Go.Proofs.YtmoojhnblakdhaaGreat.blk Go.Proofs.YtmoojhnblakdhaaGreat.aid
open Go.Proofs.YtmoojhnblakdhaaGreat.pack (bKey bRight recAt keyAt scan scanT)
open Go.Proofs.YtmoojhnblakdhaaGreat.row (bl en Rd Own OwnV appSem app_fold app1)
open Go.Proofs.YtmoojhnblakdhaaGreat.sha (digest GV)
set_option linter.unusedVariables false
attribute [local go_sem ↓] app_fold

/-- a row of entries of its own is the answer -/
def SPost (w : World) (l : List (ByteArray × Int × Int × Int)) (e : Ending) (w' : World) : Prop :=
  ∃ a c, e = .returned (.slice a l.length c) ∧ OwnV 128 w' a (en l) ∧ (∀ b o s, a = some ⟨b, o, s⟩ → w.heap.size ≤ b) ∧ Below w.heap.size w w'
theorem infoE : (Tryz.prog.info? 128).map (fun i => (i.zero, i.size, i.bytes)) = some (some (.agg #[.string ⟨#[]⟩, .int .i64 0, .int .i64 0, .int .i64 0]), 4, 40) := by kernel_rfl
theorem appE (W : World) (base : Nat) (v : Value) (n : Nat) (acc : List (ByteArray × Int × Int × Int)) (x : ByteArray) (k a m : Int) (hn : acc.length = n) (hown : W.ownsRow base 128 4 v n (en acc)) (hb : base ≤ W.heap.size) (hl : n ≤ 1048576) :
    ∃ g c w2, (appSem #[125, 125] 125 #[v, .slice (some ⟨W.heap.size, 0, none⟩) 1 1]).run Tryz.prog (W.alloc (.cells #[.string x, .int .i64 k, .int .i64 a, .int .i64 m] 128)) = .ok (.slice (some ⟨g, 0, none⟩) (n + 1) c) w2 ∧ w2.ownsRow base 128 4 (.slice (some ⟨g, 0, none⟩) (n + 1) c) (n + 1) (en (acc ++ [(x, k, a, m)])) ∧ (W.alloc (.cells #[.string x, .int .i64 k, .int .i64 a, .int .i64 m] 128)).grownBy w2 v.ownBlock := by
  obtain ⟨g, c, w2, h1, h2, h3⟩ := app1 (W := W) (base := base) (S := 125) (T := 128) (size := 4) (bytes := 40) Tryz.underlying125 infoE rfl (by decide) v n (en acc) [.string x, .int .i64 k, .int .i64 a, .int .i64 m] rfl (by intro u hu; simp at hu; rcases hu with rfl | rfl | rfl | rfl <;> rfl) hown hb hl (by decide)
  exact ⟨g, c, w2, h1, by rw [row.en_snoc]; exact h2, h3⟩

theorem own_v {w : World} {base T size n c : Nat} {a : Option Addr} {xs : List Value} (h : w.ownsRow base T size (.slice a n c) n xs) : OwnV T w a xs := by
  have h' := h
  obtain ⟨hl, h2⟩ := h
  rcases h2 with ⟨e, h0⟩ | ⟨g, cap, cur, e, _⟩
  · subst h0
    exact .inl (List.eq_nil_of_length_eq_zero (by simpa using hl))
  · simp at e
    obtain ⟨rfl, rfl⟩ := e
    exact .inr ⟨g, rfl, Own.owns h'⟩
theorem own_ge {w : World} {base T size n c : Nat} {a : Option Addr} {xs : List Value} (h : w.ownsRow base T size (.slice a n c) n xs) : ∀ b o s, a = some ⟨b, o, s⟩ → base ≤ b := by
  intro b o s e
  subst e
  exact (h.lt b rfl).1
theorem row_below {w wr w1 : World} {T size n : Nat} {v : Value} {xs : List Value} (h : wr.ownsRow w.heap.size T size v n xs) (hb : Below w.heap.size w wr) (h1 : Below wr.heap.size wr w1) : w1.ownsRow w.heap.size T size v n xs ∧ Below w.heap.size w w1 :=
  ⟨h.kept (row := none) ⟨h1.os, h1.tape, h1.output, h1.size, fun k hk _ => h1.block k hk⟩ (by
    by_cases hne : v.ownBlock = none
    · exact .inl hne
    · exact .inr hne), hb.trans (h1.mono hb.size)⟩

end Go.Proofs.YtmoojhnblakdhaaGreat.rdr
namespace Go.Proofs.YtmoojhnblakdhaaGreat.pack
open Go.RowKit Go.Joins
open Go.Proofs.YtmoojhnblakdhaaGreat.base Go.Proofs.YtmoojhnblakdhaaGreat.blk Go.Proofs.YtmoojhnblakdhaaGreat.aid
open Go.Proofs.YtmoojhnblakdhaaGreat.row (bl en Rd Own OwnV appSem app_fold app1)
open Go.Proofs.YtmoojhnblakdhaaGreat.rdr (SPost appE  own_v own_ge row_below)
set_option linter.unusedVariables false
attribute [local go_sem ↓] app_fold

theorem at_no {w w' : World} {s : ByteArray} {a : Nat} {e : Ending} (h : recAt s a = none) (hp : APost w s a e w') : ANo w e w' := by
  unfold APost at hp
  rw [h] at hp
  exact hp
theorem at_yes {w w' : World} {s : ByteArray} {a : Nat} {e : Ending} {k : Int} {q n : Nat} (h : recAt s a = some (k, q, n)) (hp : APost w s a e w') : AYes w s a k q n e w' := by
  unfold APost at hp
  rw [h] at hp
  exact hp

set_option maxRecDepth 100000 in
set_option maxHeartbeats 2000000 in
theorem scan_in (A : IAt) (s : ByteArray) (w : World) (hs : s.size ≤ 20000) :
    Calls Tryz.prog 83 #[.string s] w (SPost w (scanT s)) := by
  have h1 : (s.size : Int) ≤ 20000 := by omega
  have ET : Hid (scanT s = scan s 0) := mkHid (by unfold scanT; rw [if_neg (by omega)])
  have HN := mkHid (fun wx (a : Nat) (ha : a ≤ s.size) (hR : recAt s a = none) => (A s a wx hs ha).mono (fun e w' h => at_no hR h))
  have HY := mkHid (fun wx (a : Nat) (ha : a ≤ s.size) (k : Int) (q n : Nat) (hR : recAt s a = some (k, q, n)) => (A s a wx hs ha).mono (fun e w' h => at_yes hR h))
  unfold AYes at HY
  unfold ANo at HN
  clear A
  go_enter Tryz.func83, Tryz.ntmps83
  go_wp2_with fail
  go_loopw [3, 4] (fun v i wr => ∃ (a : Nat) (acc : List (ByteArray × Int × Int × Int)) (va : Option Addr) (vc : Nat), a ≤ s.size ∧ i = .int .i64 a ∧ v = .slice va acc.length vc ∧ acc.length ≤ a ∧ Hid (acc ++ scan s a = scan s 0) ∧ Hid (wr.ownsRow w.heap.size 128 4 (.slice va acc.length vc) acc.length (en acc) ∧ Below w.heap.size w wr))
    (fun _ i _ => s.size - (intOf i).toNat)
  case atStart => exact ⟨0, [], _, 0, Nat.zero_le _, rfl, rfl, by simp, mkHid (by simp), mkHid ⟨World.ownsRow_made _ _ _ (Nat.le_refl _) (by decide) rfl, below_alloc1 _ _⟩⟩
  case round =>
    obtain ⟨a, acc, va, vc, ha, rfl, rfl, hacc, hsc, hrow⟩ := hrel
    by_cases hlt : a < s.size
    · have hlti : (a : Int) < (s.size : Int) := by omega
      cases hR : recAt s a with
      | none =>
        have N1 : Hid (acc ++ scan s (a + 1) = scan s 0) := mkHid (by rw [← scan_no hlt hR]; exact hsc.out)
        go_wp2_with fail
        refine (HN.out _ a ha hR).mono ?_
        rintro e w1 ⟨x0, k0, p0, n0, k1, t0, q0, rfl, hb1⟩
        have N2 : Hid (((w1.alloc (.cells #[.string x0, .int .i64 k0, .int .i64 p0, .int .i64 n0] 128)).alloc (.cells #[.int .i64 k1, .string t0] 110)).ownsRow w.heap.size 128 4 (.slice va acc.length vc) acc.length (en acc) ∧ Below w.heap.size w ((w1.alloc (.cells #[.string x0, .int .i64 k0, .int .i64 p0, .int .i64 n0] 128)).alloc (.cells #[.int .i64 k1, .string t0] 110))) :=
          mkHid (row_below hrow.out.1 hrow.out.2 (hb1.trans (((below_alloc1 w1 _).alloc (by simp) _).mono hb1.size)))
        clear hb1 hrow hsc HN HY hR
        go_wp2
        exact ⟨⟨a + 1, acc, va, vc, by omega, by go_num, rfl, by omega, N1, N2⟩, by simp [intOf]; omega⟩
      | some x =>
        obtain ⟨k, q, n⟩ := x
        have hq := rec_some hR
        have N1 : Hid ((acc ++ [(keyAt s a, k, (q : Int), (n : Int))]) ++ scan s (q + n) = scan s 0) := mkHid (by rw [← hsc.out, scan_yes hlt hR]; simp)
        have HYY := mkHid (fun wx => HY.out wx a ha k q n hR)
        generalize keyAt s a = ky at *
        generalize s.extract q (q + n) = tx at *
        clear HY HN hsc hR
        go_wp2_with fail
        refine (HYY.out _).mono ?_
        rintro e w1 ⟨rfl, hb1⟩
        have E1 := mkHid (And.intro (row_below hrow.out.1 hrow.out.2 (hb1.trans (((below_alloc1 w1 (.cells #[.string ky, .int .i64 k, .int .i64 (q : Int), .int .i64 (n : Int)] 128)).alloc (by simp) (.cells #[.int .i64 k, .string tx] 110)).mono hb1.size))) (blk_old (blk_new w1 (.cells #[.string ky, .int .i64 k, .int .i64 (q : Int), .int .i64 (n : Int)] 128) w1.heap.size rfl) (.cells #[.int .i64 k, .string tx] 110)))
        have hsz : ((w1.alloc (.cells #[.string ky, .int .i64 k, .int .i64 (q : Int), .int .i64 (n : Int)] 128)).alloc (.cells #[.int .i64 k, .string tx] 110)).heap.size = w1.heap.size + 1 + 1 := by simp
        obtain ⟨g, c, w2, hrun, hown2, hgr⟩ := appE ((w1.alloc (.cells #[.string ky, .int .i64 k, .int .i64 (q : Int), .int .i64 (n : Int)] 128)).alloc (.cells #[.int .i64 k, .string tx] 110)) w.heap.size (.slice va acc.length vc) acc.length acc ky k q n rfl E1.out.1.1 E1.out.1.2.size (by omega)
        have N2 : Hid (w2.ownsRow w.heap.size 128 4 (.slice (some ⟨g, 0, none⟩) (acc.length + 1) c) (acc.length + 1) (en (acc ++ [(ky, k, (q : Int), (n : Int))])) ∧ Below w.heap.size w w2) :=
          mkHid ⟨hown2, (E1.out.1.2.alloc E1.out.1.2.size (.cells #[.string ky, .int .i64 k, .int .i64 (q : Int), .int .i64 (n : Int)] 128)).grown hgr (by have := E1.out.1.2.size; simp at this ⊢; omega) (fun x hx => (E1.out.1.1.lt x hx).1)⟩
        obtain ⟨c0, c1, c2, c3⟩ := cel4 E1.out.2
        rw [hsz] at hrun
        clear hb1 hrow HYY hown2 hgr E1 hsz
        go_wp2
        exact ⟨⟨q + n, acc ++ [(ky, k, (q : Int), (n : Int))], some ⟨g, 0, none⟩, c, by omega, by go_num, by simp, by simp; omega, N1, by simpa using N2⟩, by simp [intOf]; omega⟩
    · have hlti : ¬ ((a : Int) < (s.size : Int)) := by omega
      have E : Hid (scanT s = acc) := mkHid (by rw [ET.out, ← hsc.out, scan_end (by omega)]; simp)
      clear hsc
      go_wp2
      go_ret
      rw [E.out]
      exact ⟨va, vc, rfl, own_v hrow.out.1, own_ge hrow.out.1, hrow.out.2⟩

set_option maxRecDepth 100000 in
theorem scan_spec (A : IAt) (s : ByteArray) (w : World) (hs : s.size ≤ 1048576) :
    Calls Tryz.prog 83 #[.string s] w (SPost w (scanT s)) := by
  by_cases h : 20000 < (s.size : Int)
  · have E : scanT s = [] := by unfold scanT; rw [if_pos (by omega)]
    rw [E]
    clear E
    go_enter Tryz.func83, Tryz.ntmps83
    go_wp2
    go_ret
    exact ⟨_, _, rfl, .inl rfl, fun b o s e => by simp at e; omega, below_alloc1 _ _⟩
  · exact scan_in A s w (by omega)
end Go.Proofs.YtmoojhnblakdhaaGreat.pack
namespace Go.Proofs.YtmoojhnblakdhaaGreat.plc
open Go.RowKit Go.Joins Go.Sort
open Go.Proofs.YtmoojhnblakdhaaGreat.base Go.Proofs.YtmoojhnblakdhaaGreat.blk Go.Proofs.YtmoojhnblakdhaaGreat.aid
open Go.Proofs.YtmoojhnblakdhaaGreat.row (Rd Own OwnV en appSem app_fold)
open Go.Proofs.YtmoojhnblakdhaaGreat.rwPlace (cs el)
open Go.Proofs.YtmoojhnblakdhaaGreat.obj (objB objB_small)
open Go.Proofs.YtmoojhnblakdhaaGreat.pack (scanT scanT_len IAt)
set_option linter.unusedVariables false
set_option linter.unusedSimpArgs false
attribute [local go_sem ↓] slice_fold

/-- places that can be read, fresh ones, are the answer -/
def OfPost (w : World) (r : List Pl) (e : Ending) (w' : World) : Prop :=
  ∃ a c, e = .returned (.slice a r.length c) ∧ Rd w' a (cs r) ∧ (∀ b o s, a = some ⟨b, o, s⟩ → w.heap.size ≤ b) ∧ Below w.heap.size w w'
theorem of_of {w w' : World} {r : List Pl} {a : Option Addr} {n c : Nat} (hn : r.length = n) (hr : Rd w' a (cs r)) (hf : ∀ b o s, a = some ⟨b, o, s⟩ → w.heap.size ≤ b) (hb : Below w.heap.size w w') : OfPost w r (.returned (.slice a n c)) w' := by
  subst hn
  exact ⟨a, c, rfl, hr, hf, hb⟩
/-- what holds on the way -/
structure Fs (w : World) (k : ByteArray) (l : List En) (i : Nat) (acc : List Pl) (a : Option Addr) (c : Nat) (al : Option Addr) (wr : World) : Prop where
  eq : acc = (found k (l.take i)).foldl put []
  rd : Rd wr a (cs acc)
  fresh : ∀ b o s, a = some ⟨b, o, s⟩ → w.heap.size ≤ b
  cap : acc.length ≤ c
  ents : Rd wr al (en l)
  below : Below w.heap.size w wr
set_option maxRecDepth 100000 in
set_option maxHeartbeats 4000000 in
theorem l10Of_any (A : IAt) (k s : ByteArray) (w : World) (hk : k.size ≤ 1048576) (hs : s.size ≤ 20000) :
    Calls Tryz.prog 68 #[.string k, .string s] w (OfPost w (((found k (scanT s)).foldl put []).take 300)) := by
  have hp := scanT_len s
  have KS := pack.scan_spec A s (w.alloc (.cells #[] 33)) (by omega)
  generalize scanT s = l at hp KS
  have HS : Hid (Calls Tryz.prog 83 #[.string s] (w.alloc (.cells #[] 33)) fun e w' => ∃ a c, e = .returned (.slice a l.length c) ∧ OwnV 128 w' a (en l) ∧ (∀ b o s, a = some ⟨b, o, s⟩ → (w.alloc (.cells #[] 33)).heap.size ≤ b) ∧ Below (w.alloc (.cells #[] 33)).heap.size (w.alloc (.cells #[] 33)) w') := mkHid KS
  have B0 := mkHid (below_alloc1 w (.cells #[] 33))
  have hli : (l.length : Int) ≤ 20000 := by omega
  clear KS A
  go_enter Tryz.func68, Tryz.ntmps68
  go_wp2_with fail
  refine HS.out.mono ?_
  rintro e w1 ⟨al, cl, rfl, hol, hfl, hb⟩
  have S0 : Hid (Fs w k l 0 [] (some ⟨w.heap.size, 0, none⟩) 0 al w1) := mkHid ⟨by simp [found], Rd.nil _ _, (fun b o s e => by cases e; exact Nat.le_refl _), Nat.le_refl _, hol.rd, below_trans B0.out hb⟩
  clear hol hfl hb B0 HS
  go_wp2_with fail
  go_loopw [5, 7] (fun v i wr => ∃ (n : Nat) (acc : List Pl) (a : Option Addr) (c : Nat), n ≤ l.length ∧ i = .int .i64 n ∧ v = .slice a acc.length c ∧ Hid (Fs w k l n acc a c al wr))
    (fun _ i _ => l.length - (intOf i).toNat)
  case atStart => exact ⟨0, [], _, 0, Nat.zero_le _, rfl, rfl, S0⟩
  case round =>
    obtain ⟨n, acc, a, c, hn, rfl, rfl, S⟩ := hrel
    clear S0
    have hal : acc.length ≤ 20000 := by
      rw [S.out.eq]
      have h1 := put_foldl_len (found k (l.take n)) []
      have h2 := found_len k (l.take n)
      have h3 : (l.take n).length ≤ n := by simp; omega
      simp only [List.length_nil] at h1
      omega
    have hali : (acc.length : Int) ≤ 20000 := by omega
    by_cases hlt : n < l.length
    · have hlti : (n : Int) < (l.length : Int) := by omega
      obtain ⟨⟨x, kd, q, z⟩, hx⟩ : ∃ y, l[n]? = some y := ⟨_, List.getElem?_eq_getElem hlt⟩
      obtain ⟨g1, o1, rfl, c0, c1, c2, c3, l1⟩ := S.out.ents.entry hx
      simp only at c0 c1 c2 c3
      by_cases hq : q ≤ 12000
      · have hne : near (x, kd, q, z) = true := by unfold near; simpa using hq
        have E := mkHid (found_yes (k := k) hx hne)
        have HP := mkHid (fun wx (hb : Below w.heap.size w wx) (hr : Rd wx a (cs acc)) => putS_any a c acc x k kd q z wx (by omega) S.out.cap hr)
        clear hx hne
        go_wp2_with fail
        go_region_held3 (fun w' => w'.cell? ⟨g1, o1 + n * 4, none⟩ = some (.string x) ∧ w'.cell? ⟨g1, o1 + n * 4 + 1, none⟩ = some (.int .i64 kd) ∧ w'.cell? ⟨g1, o1 + n * 4 + 2, none⟩ = some (.int .i64 q) ∧ w'.cell? ⟨g1, o1 + n * 4 + 3, none⟩ = some (.int .i64 z)) (go_keep)
          ((go_at_call 38; refine Calls.mono (HP.out _ (by first | exact S.out.below | exact ⟨S.out.below.os, S.out.below.tape, S.out.below.output, S.out.below.size, S.out.below.block⟩) (by exact S.out.rd)) ?_; rintro e w2 ⟨a2, e2, rfl, hr2, hf2, hb2, hc2⟩; have r2 := re (w := wr) hb2 rfl rfl rfl rfl; have d0 := (r2.cell (p := ⟨g1, o1 + n * 4, none⟩) l1).trans c0; have d1 := (r2.cell (p := ⟨g1, o1 + n * 4 + 1, none⟩) l1).trans c1; have d2 := (r2.cell (p := ⟨g1, o1 + n * 4 + 2, none⟩) l1).trans c2; have d3 := (r2.cell (p := ⟨g1, o1 + n * 4 + 3, none⟩) l1).trans c3))
        have N1 : Hid (Fs w k l (n + 1) (put acc (x, k, kd, q, z)) a2 e2 (some ⟨g1, o1, none⟩) w2) := mkHid ⟨by rw [E.out, List.foldl_append, ← S.out.eq]; rfl, hr2, fun b o s e => by
          rcases hf2 with hf2 | hf2
          · rw [hf2] at e
            exact S.out.fresh b o s e
          · exact Nat.le_trans S.out.below.size (hf2 b o s e), hc2, S.out.ents.below r2, below_trans S.out.below r2⟩
        clear hr2 hf2 hb2 hc2 r2 d0 d1 d2 d3 HP E S c0 c1 c2 c3
        go_wp2
        go_roundw
        case rel => exact ⟨n + 1, _, a2, e2, by omega, by go_num, rfl, N1⟩
        case measure => simp [intOf]; omega
      · have hne : near (x, kd, q, z) = false := by unfold near; simpa using hq
        have N1 : Hid (Fs w k l (n + 1) acc a c (some ⟨g1, o1, none⟩) wr) := mkHid ⟨by rw [found_no hx hne]; exact S.out.eq, S.out.rd, S.out.fresh, S.out.cap, S.out.ents, S.out.below⟩
        have hq' : 12000 < q := by omega
        clear hx hne S
        go_wp2
        go_roundw
        case rel => exact ⟨n + 1, _, a, c, by omega, by go_num, rfl, N1⟩
        case measure => simp [intOf]; omega
    · obtain rfl : n = l.length := by omega
      have heq := S.out.eq
      rw [List.take_of_length_le (Nat.le_refl _)] at heq
      have HQ := mkHid heq
      have hcap := S.out.cap
      by_cases h3 : 300 < acc.length
      · have h3i : (300 : Int) < (acc.length : Int) := by omega
        have hS : ∀ wx, (sliceSem 23 (.slice a acc.length c) none (some (.int .i64 300)) none).run Tryz.prog wx = .ok (.slice a 300 c) wx := fun wx => sl_hi a acc.length c 300 (by omega) wx
        have F : Hid (OfPost w (((found k l).foldl put []).take 300) (.returned (.slice a 300 c)) wr) := mkHid (of_of (by rw [← HQ.out, List.length_take]; omega) (by rw [← HQ.out]; exact rd_take S.out.rd 300) S.out.fresh S.out.below)
        clear S heq HQ
        go_wp2
        go_ret
        exact F.out
      · have h3i : (acc.length : Int) ≤ 300 := by omega
        have F : Hid (OfPost w (((found k l).foldl put []).take 300) (.returned (.slice a acc.length c)) wr) := mkHid (of_of (by rw [← HQ.out, List.length_take]; omega) (by rw [← HQ.out]; exact rd_take S.out.rd 300) S.out.fresh S.out.below)
        clear S heq HQ
        go_wp2
        go_ret
        exact F.out
set_option maxRecDepth 100000 in
set_option maxHeartbeats 2000000 in
theorem placesOfS_any (A : IAt) (k s : ByteArray) (w : World) (hk : k.size ≤ 1048576) (hs : s.size ≤ 1048576) :
    Calls Tryz.prog 43 #[.string k, .string s] w (OfPost w (ofA k s)) := by
  have hki : (k.size : Int) ≤ 1048576 := by omega
  have hsi : (s.size : Int) ≤ 1048576 := by omega
  have HB0 := mkHid (below_alloc1 w (.cells #[] 33))
  have FE : Hid (ofA k s = [] → OfPost w (ofA k s) (.returned (.slice (some ⟨w.heap.size, 0, none⟩) 0 0)) (w.alloc (.cells #[] 33))) := mkHid (fun h => of_of (by rw [h]; rfl) (by rw [h]; exact Rd.nil _ _) (fun b o s e => by cases e; exact Nat.le_refl _) HB0.out)
  by_cases h1 : 20000 < k.size
  · have E : ofA k s = [] := by
      unfold ofA
      rw [if_neg]
      intro h
      have := objB_small h
      omega
    have F := mkHid (FE.out E)
    have h1i : (20000 : Int) < (k.size : Int) := by omega
    clear FE E
    go_enter Tryz.func43, Tryz.ntmps43
    go_wp2
    go_ret
    exact F.out
  have h1i : (k.size : Int) ≤ 20000 := by omega
  by_cases h2 : 20000 < s.size
  · have E : ofA k s = [] := by
      unfold ofA
      have : scanT s = [] := by unfold pack.scanT; rw [if_pos h2]
      rw [this]
      split <;> simp [found]
    have F := mkHid (FE.out E)
    have h2i : (20000 : Int) < (s.size : Int) := by omega
    clear FE E
    go_enter Tryz.func43, Tryz.ntmps43
    go_wp2
    go_ret
    exact F.out
  have h2i : (s.size : Int) ≤ 20000 := by omega
  have HO := mkHid (fun wx => obj.objS_any k wx hk)
  cases ho : objB k with
  | false =>
    rw [ho] at HO
    have F := mkHid (FE.out (by unfold ofA; rw [if_neg (by rw [ho]; simp)]))
    clear FE
    go_enter Tryz.func43, Tryz.ntmps43
    go_wp2_with fail
    refine (HO.out _).mono ?_
    rintro e w1 ⟨rfl, rfl⟩
    go_wp2
    go_ret
    exact F.out
  | true =>
    rw [ho] at HO
    have HL := mkHid (l10Of_any A k s w hk (by omega))
    have E : ofA k s = (((found k (scanT s)).foldl put []).take 300) := by unfold ofA; rw [if_pos ho]
    rw [E]
    generalize ((found k (scanT s)).foldl put []).take 300 = r at *
    have HL2 : Hid (Calls Tryz.prog 68 #[.string k, .string s] w fun e w' => ∃ a c, e = .returned (.slice a r.length c) ∧ Rd w' a (cs r) ∧ (∀ b o s, a = some ⟨b, o, s⟩ → w.heap.size ≤ b) ∧ Below w.heap.size w w') := mkHid HL.out
    clear FE HL A E
    go_enter Tryz.func43, Tryz.ntmps43
    go_wp2_with fail
    refine (HO.out _).mono ?_
    rintro e w1 ⟨rfl, rfl⟩
    go_wp2_with fail
    refine HL2.out.mono ?_
    rintro e w2 ⟨a, c, rfl, h3, h4, h5⟩
    have F : Hid (OfPost w1 r (.returned (.slice a r.length c)) w2) := mkHid ⟨a, c, rfl, h3, h4, h5⟩
    clear h3 h4 h5 HL2 HO
    go_wp2
    go_ret
    exact F.out
end Go.Proofs.YtmoojhnblakdhaaGreat.plc
