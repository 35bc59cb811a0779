/-
  Paths and files in plain words: what is right. No condition.
-/
import Derived.Test.YtmmmadehifajlaaDoorOrdP
import Derived.Test.YtmmmadehifajlaaDoorObjA
import Derived.Test.YtmmmadehifajlaaDoorSegP
import Derived.Test.YtmmmadehifajlaaDoorRwFile
namespace Go.Proofs.YtmmmadehifajlaaDoor.fil
open Go.RowKit Go.Joins
open Go.Proofs.YtmmmadehifajlaaDoor.ord
open Go.Proofs.YtmmmadehifajlaaDoor.seg (segs)
open Go.Proofs.YtmmmadehifajlaaDoor.obj (nameB name_small)
set_option linter.unusedVariables false
set_option linter.unusedSimpArgs false

abbrev Fi : Type := ByteArray × ByteArray
def tb (g : List UInt8) : ByteArray := ⟨g.toArray⟩
/-- all are names -/
def namesB (l : List (List UInt8)) : Bool := l.all (fun g => nameB (tb g))
/-- a path is right -/
def pathB (s : ByteArray) : Bool := decide ((segs s.data.toList).length ≤ 5) && namesB (segs s.data.toList)
/-- stands beneath -/
def under (d p : ByteArray) : Bool := (d.data.toList ++ [47]).isPrefixOf p.data.toList
/-- none stands beneath -/
def noneU (d : ByteArray) (l : List Fi) : Bool := l.all (fun g => !under d g.1)
def fileB (all : List Fi) (q : Option Fi) (f : Fi) : Bool := pathB f.1 && decide (f.2.size ≤ 1500) && (match q with | none => true | some g => blt g.1 f.1) && noneU f.1 all
def filsB (all : List Fi) : Option Fi → List Fi → Bool
  | _, [] => true
  | q, f :: r => fileB all q f && filsB all (some f) r
/-- files are right -/
def filesB (l : List Fi) : Bool := decide (l.length ≤ 20) && filsB l none l
def before (l : List Fi) (k : Nat) : Option Fi := if k = 0 then none else l[k - 1]?
theorem before_next {l : List Fi} {k : Nat} {f : Fi} (h : l[k]? = some f) : before l (k + 1) = some f := by
  unfold before
  rw [if_neg (by omega)]
  exact h
theorem filsB_step (all l : List Fi) (k : Nat) (f : Fi) (h : l[k]? = some f) : filsB all (before l k) (l.drop k) = (fileB all (before l k) f && filsB all (before l (k + 1)) (l.drop (k + 1))) := by
  have hlt := (List.getElem?_eq_some_iff.1 h).1
  have e : l.drop k = f :: l.drop (k + 1) := by rw [List.drop_eq_getElem_cons hlt, (List.getElem?_eq_some_iff.1 h).2]
  rw [e, filsB, before_next h]
theorem ahead (l : List Fi) (k : Nat) (h : k < l.length) : (k = 0 ∧ before l k = none) ∨ ∃ j p, k = j + 1 ∧ l[j]? = some p ∧ before l k = some p := by
  cases k with
  | zero => exact .inl ⟨rfl, rfl⟩
  | succ j =>
    refine .inr ⟨j, l[j], rfl, List.getElem?_eq_getElem (by omega), ?_⟩
    unfold before
    rw [if_neg (by omega)]
    exact List.getElem?_eq_getElem (by omega)
theorem noneU_step (d : ByteArray) (l : List Fi) (k : Nat) (f : Fi) (h : l[k]? = some f) : noneU d (l.drop k) = (!under d f.1 && noneU d (l.drop (k + 1))) := by
  have hlt := (List.getElem?_eq_some_iff.1 h).1
  have e : l.drop k = f :: l.drop (k + 1) := by rw [List.drop_eq_getElem_cons hlt, (List.getElem?_eq_some_iff.1 h).2]
  rw [e]
  rfl
theorem noneU_no {d : ByteArray} {l : List Fi} {f : Fi} (h : f ∈ l) (hu : under d f.1 = true) : noneU d l = false := by
  unfold noneU
  rw [List.all_eq_false]
  exact ⟨f, h, by rw [hu]; simp⟩
/-- as the specification asks it -/
theorem under_is (d p : ByteArray) : under d p = true ↔ d.size < p.size ∧ p.extract 0 d.size = d ∧ p.data.toList[d.size]? = some 47 := by
  have hlen : d.data.toList.length = d.size := by rw [Array.length_toList]; rfl
  have hlenp : p.data.toList.length = p.size := by rw [Array.length_toList]; rfl
  unfold under
  rw [List.isPrefixOf_iff_prefix]
  constructor
  · rintro ⟨r, hr⟩
    have e1 : p.data.toList = d.data.toList ++ (47 :: r) := by rw [← hr]; simp
    refine ⟨?_, ?_, ?_⟩
    · have := congrArg List.length e1
      rw [hlenp, List.length_append, hlen] at this
      simp at this
      omega
    · apply ByteArray.ext
      apply Array.toList_inj.1
      have : (p.extract 0 d.size).data.toList = p.data.toList.take d.size := by simp
      rw [this, e1, ← hlen, List.take_left]
    · rw [e1, List.getElem?_append_right (by omega), hlen]
      simp
  · rintro ⟨h1, h2, h3⟩
    have e2 : (p.extract 0 d.size).data.toList = p.data.toList.take d.size := by simp
    rw [h2] at e2
    refine ⟨p.data.toList.drop (d.size + 1), ?_⟩
    have hlt := (List.getElem?_eq_some_iff.1 h3).1
    have e3 : p.data.toList.drop d.size = 47 :: p.data.toList.drop (d.size + 1) := by rw [List.drop_eq_getElem_cons hlt, (List.getElem?_eq_some_iff.1 h3).2]
    rw [e2, List.append_assoc, List.singleton_append, ← e3, List.take_append_drop]
/-- what is left of the paths beneath -/
def left_ (d p : ByteArray) : ByteArray := ⟨(p.data.toList.drop (d.size + 1)).toArray⟩
def ben1 (d : ByteArray) (f : Fi) : List Fi := if under d f.1 = true then [(left_ d f.1, f.2)] else []
def ben (d : ByteArray) (l : List Fi) : List Fi := l.flatMap (ben1 d)
theorem ben_next {d : ByteArray} {l : List Fi} {k : Nat} {f : Fi} (h : l[k]? = some f) : ben d (l.take (k + 1)) = ben d (l.take k) ++ ben1 d f := by
  unfold ben
  rw [List.take_add_one, h, List.flatMap_append]
  simp
theorem ben_len (d : ByteArray) : ∀ l : List Fi, (ben d l).length ≤ l.length
  | [] => by simp [ben]
  | f :: r => by
    have h := ben_len d r
    have e : ben d (f :: r) = ben1 d f ++ ben d r := by simp [ben]
    rw [e, List.length_append, List.length_cons]
    have : (ben1 d f).length ≤ 1 := by unfold ben1; split <;> simp
    omega
theorem ben_none (d : ByteArray) (l : List Fi) : (ben d l = []) ↔ noneU d l = true := by
  unfold ben noneU
  rw [List.flatMap_eq_nil_iff, List.all_eq_true]
  constructor
  · intro h x hx
    have := h x hx
    unfold ben1 at this
    cases hu : under d x.1 with
    | false => rfl
    | true => rw [hu] at this; simp at this
  · intro h x hx
    have := h x hx
    unfold ben1
    rw [if_neg (by simpa using this)]
theorem ben_some (d : ByteArray) (l : List Fi) : (0 < (ben d l).length) ↔ noneU d l = false := by
  have h := ben_none d l
  cases hn : noneU d l with
  | true =>
    rw [hn] at h
    rw [h.2 rfl]
    simp
  | false =>
    rw [hn] at h
    have h2 : ben d l ≠ [] := fun e => by have := h.1 e; cases this
    simp
    exact List.length_pos_iff.2 h2
def Small (l : List Fi) : Prop := ∀ f ∈ l, f.1.size ≤ 1048576 ∧ f.2.size ≤ 1048576
end Go.Proofs.YtmmmadehifajlaaDoor.fil
