/-
  Where a pack's pieces lie, in plain words. No condition.
-/
import Derived.Test.YtppjbmmeacmoiaaDoorPlcP
import Derived.Test.YtppjbmmeacmoiaaDoorScanP
namespace Go.Proofs.YtppjbmmeacmoiaaDoor.plc
open Go.RowKit Go.Joins
open Go.Proofs.YtppjbmmeacmoiaaDoor.base Go.Proofs.YtppjbmmeacmoiaaDoor.blk Go.Proofs.YtppjbmmeacmoiaaDoor.aid
open Go.Proofs.YtppjbmmeacmoiaaDoor.obj (objB objB_small)
open Go.Proofs.YtppjbmmeacmoiaaDoor.pack (scanT scanT_len)
set_option linter.unusedVariables false

abbrev En : Type := ByteArray × Int × Int × Int
def toP (k : ByteArray) (e : En) : Pl := (e.1, k, e.2.1, e.2.2.1, e.2.2.2)
def near (e : En) : Bool := decide (e.2.2.1 ≤ 12000)
/-- the places of a pack's entries -/
def found (k : ByteArray) (l : List En) : List Pl := (l.filter near).map (toP k)
/-- what PlacesOf answers -/
def ofA (k s : ByteArray) : List Pl := if objB k = true then ((found k (scanT s)).foldl put []).take 300 else []
theorem found_no {k : ByteArray} {l : List En} {i : Nat} {e : En} (h : l[i]? = some e) (hn : near e = false) : found k (l.take (i + 1)) = found k (l.take i) := by
  unfold found
  rw [List.take_add_one, h]
  simp [List.filter_append, hn]
theorem found_yes {k : ByteArray} {l : List En} {i : Nat} {e : En} (h : l[i]? = some e) (hn : near e = true) : found k (l.take (i + 1)) = found k (l.take i) ++ [toP k e] := by
  unfold found
  rw [List.take_add_one, h]
  simp [List.filter_append, hn]
theorem found_len (k : ByteArray) (l : List En) : (found k l).length ≤ l.length := by
  unfold found
  rw [List.length_map]
  exact List.length_filter_le _ _
theorem put_foldl_len : ∀ (l a : List Pl), (l.foldl put a).length ≤ a.length + l.length
  | [], a => by simp
  | x :: l, a => by
    have h := put_foldl_len l (put a x)
    have h2 := put_len a x
    simp only [List.foldl_cons, List.length_cons]
    omega
theorem ofA_len (k s : ByteArray) : (ofA k s).length ≤ 300 := by
  unfold ofA
  split
  · rw [List.length_take]; omega
  · simp
end Go.Proofs.YtppjbmmeacmoiaaDoor.plc
