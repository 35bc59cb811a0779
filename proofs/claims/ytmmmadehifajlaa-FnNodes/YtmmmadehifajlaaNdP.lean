/-
  Nodes in plain words: what is right, and their bytes. No condition.
-/
import Derived.Test.YtmmmadehifajlaaOrdP
import Derived.Test.YtmmmadehifajlaaObjA
import Derived.Test.YtmmmadehifajlaaNodP
import Derived.Test.YtmmmadehifajlaaNumBk
import Derived.Test.YtmmmadehifajlaaPutText
namespace Go.Proofs.Ytmmmadehifajlaa.nod
open Go.RowKit Go.Joins
open Go.Proofs.Ytmmmadehifajlaa.ord
open Go.Proofs.Ytmmmadehifajlaa.obj (nameB name_small)
set_option linter.unusedVariables false
set_option linter.unusedSimpArgs false

def keysB (l : Tx) : Bool := l.all (fun t => decide (t.size = 32))
/-- what a directory is -/
def dirB (v : Vn) : Bool := !v.2.1 || (decide (v.2.2.1 = 0) && decide (v.2.2.2.length = 1))
/-- a node is right -/
def nodeB (v : Vn) : Bool := nameB v.1 && decide (v.2.2.2.length ≤ 100) && dirB v && (decide (0 ≤ v.2.2.1) && decide (v.2.2.1 ≤ 1500)) && keysB v.2.2.2
/-- one behind the one ahead of it -/
def aft (q : Option Vn) (v : Vn) : Bool := match q with | none => true | some g => blt g.1 v.1
def nodsB : Option Vn → List Vn → Bool
  | _, [] => true
  | q, v :: r => nodeB v && aft q v && nodsB (some v) r
/-- nodes are right -/
def nodesB (l : List Vn) : Bool := decide (l.length ≤ 20) && nodsB none l
def before (l : List Vn) (k : Nat) : Option Vn := if k = 0 then none else l[k - 1]?
theorem before_next {l : List Vn} {k : Nat} {f : Vn} (h : l[k]? = some f) : before l (k + 1) = some f := by
  unfold before
  rw [if_neg (by omega)]
  exact h
theorem nodsB_step (l : List Vn) (k : Nat) (v : Vn) (h : l[k]? = some v) : nodsB (before l k) (l.drop k) = (nodeB v && aft (before l k) v && nodsB (before l (k + 1)) (l.drop (k + 1))) := by
  have hlt := (List.getElem?_eq_some_iff.1 h).1
  have e : l.drop k = v :: l.drop (k + 1) := by rw [List.drop_eq_getElem_cons hlt, (List.getElem?_eq_some_iff.1 h).2]
  rw [e, nodsB, before_next h]
theorem ahead (l : List Vn) (k : Nat) (h : k < l.length) : (k = 0 ∧ before l k = none) ∨ ∃ j p, k = j + 1 ∧ l[j]? = some p ∧ before l k = some p := by
  cases k with
  | zero => exact .inl ⟨rfl, rfl⟩
  | succ j =>
    refine .inr ⟨j, l[j], rfl, List.getElem?_eq_getElem (by omega), ?_⟩
    unfold before
    rw [if_neg (by omega)]
    exact List.getElem?_eq_getElem (by omega)
theorem nodsB_all : ∀ (q : Option Vn) (l : List Vn), nodsB q l = true → ∀ v ∈ l, nodeB v = true
  | q, [], h, v, hv => by simp at hv
  | q, p :: r, h, v, hv => by
    rw [nodsB, Bool.and_eq_true, Bool.and_eq_true] at h
    rcases List.mem_cons.1 hv with rfl | hv
    · exact h.1.1
    · exact nodsB_all (some p) r h.2 v hv
theorem nodesB_parts {l : List Vn} (h : nodesB l = true) : l.length ≤ 20 ∧ ∀ v ∈ l, nodeB v = true := by
  unfold nodesB at h
  rw [Bool.and_eq_true, decide_eq_true_eq] at h
  exact ⟨h.1, nodsB_all _ _ h.2⟩
theorem keysB_step (l : Tx) (k : Nat) (t : ByteArray) (h : l[k]? = some t) : keysB (l.drop k) = (decide (t.size = 32) && keysB (l.drop (k + 1))) := by
  have hlt := (List.getElem?_eq_some_iff.1 h).1
  have e : l.drop k = t :: l.drop (k + 1) := by rw [List.drop_eq_getElem_cons hlt, (List.getElem?_eq_some_iff.1 h).2]
  rw [e]
  rfl
theorem keysB_no {l : Tx} {t : ByteArray} (h : t ∈ l) (hs : t.size ≠ 32) : keysB l = false := by
  unfold keysB
  rw [List.all_eq_false]
  exact ⟨t, h, by simpa using hs⟩
theorem keysB_iff (l : Tx) : keysB l = true ↔ ∀ t ∈ l, t.size = 32 := by
  unfold keysB
  rw [List.all_eq_true]
  simp
theorem nodeB_small {v : Vn} (h : nodeB v = true) : v.1.size ≤ 80 ∧ v.2.2.2.length ≤ 100 ∧ 0 ≤ v.2.2.1 ∧ v.2.2.1 ≤ 1500 ∧ ∀ t ∈ v.2.2.2, t.size = 32 := by
  unfold nodeB at h
  simp only [Bool.and_eq_true, decide_eq_true_eq] at h
  obtain ⟨⟨⟨⟨h1, h2⟩, _⟩, h4, h5⟩, h6⟩ := h
  exact ⟨(name_small h1).2, h2, h4, h5, (keysB_iff _).1 h6⟩

def dirN (b : Bool) : Int := if b = true then 1 else 0
def catT (l : Tx) : List UInt8 := l.flatMap (fun t => t.data.toList)
theorem catT_snoc {l : Tx} {k : Nat} {x : ByteArray} (h : l[k]? = some x) : catT (l.take (k + 1)) = catT (l.take k) ++ x.data.toList := by
  unfold catT
  rw [List.take_add_one, h, List.flatMap_append]
  simp
theorem len_list (s : ByteArray) : s.data.toList.length = s.size := by rw [Array.length_toList]; rfl
theorem app_list (s t : ByteArray) : (s ++ t).data.toList = s.data.toList ++ t.data.toList := by
  have : (s ++ t).data = s.data ++ t.data := by simp
  rw [this, Array.toList_append]
theorem catT_len : ∀ (l : Tx), (∀ t ∈ l, t.size = 32) → (catT l).length = 32 * l.length
  | [], _ => by simp [catT]
  | p :: l, h => by
    have h1 := catT_len l (fun q hq => h q (List.mem_cons_of_mem _ hq))
    have h2 := h p (by simp)
    have e : catT (p :: l) = p.data.toList ++ catT l := by simp [catT]
    rw [e, List.length_append, len_list, List.length_cons]
    omega
/-- what stands ahead of a node's keys -/
def headN (v : Vn) : ByteArray := (fnExactPutText.pre v.1.size ++ v.1) ++ nbk.numB (dirN v.2.1) ++ nbk.numB v.2.2.1 ++ nbk.numB v.2.2.2.length
/-- a node's bytes -/
def recN (v : Vn) : List UInt8 := (headN v).data.toList ++ catT v.2.2.2
def recsN (l : List Vn) : List UInt8 := l.flatMap recN
/-- the bytes of right nodes -/
def bytesL (l : List Vn) : List UInt8 := (nbk.numB l.length).data.toList ++ recsN l
def bytesN (l : List Vn) : ByteArray := if nodesB l = true then ⟨(bytesL l).toArray⟩ else ⟨#[]⟩
theorem bytesN_no {l : List Vn} (h : nodesB l = false) : bytesN l = ⟨#[]⟩ := by unfold bytesN; rw [if_neg (by rw [h]; simp)]
theorem dirN_small (b : Bool) : 0 ≤ dirN b ∧ dirN b ≤ 1 := by cases b <;> simp [dirN]
theorem headN_size {v : Vn} (h : nodeB v = true) : (headN v).size ≤ 250 := by
  obtain ⟨h1, h2, h3, h4, _⟩ := nodeB_small h
  have h5 := dirN_small v.2.1
  have e1 := fnExactPutText.pre_size v.1.size
  have e2 := nbk.numB_len (k := dirN v.2.1) (by omega)
  have e3 := nbk.numB_len (k := v.2.2.1) (by omega)
  have e4 := nbk.numB_len (k := (v.2.2.2.length : Int)) (by omega)
  unfold headN
  simp only [ByteArray.size_append]
  omega
theorem recN_len {v : Vn} (h : nodeB v = true) : (recN v).length ≤ 3450 := by
  have h1 := headN_size h
  obtain ⟨_, h2, _, _, h3⟩ := nodeB_small h
  unfold recN
  rw [List.length_append, len_list, catT_len _ h3]
  omega
theorem recsN_snoc {l : List Vn} {k : Nat} {x : Vn} (h : l[k]? = some x) : recsN (l.take (k + 1)) = recsN (l.take k) ++ recN x := by
  unfold recsN
  rw [List.take_add_one, h, List.flatMap_append]
  simp
theorem recsN_len : ∀ (l : List Vn), (∀ p ∈ l, nodeB p = true) → (recsN l).length ≤ 3450 * l.length
  | [], _ => by simp [recsN]
  | p :: l, h => by
    have h1 := recsN_len l (fun q hq => h q (List.mem_cons_of_mem _ hq))
    have h2 := recN_len (h p (by simp))
    have e : recsN (p :: l) = recN p ++ recsN l := by simp [recsN]
    rw [e, List.length_append, List.length_cons]
    omega
theorem num_spec (k : Int) (w : World) (h : 0 ≤ k) (h2 : k ≤ 12000) :
    Calls Try.prog 64 #[.int .i64 k] w fun e w' => e = .returned (.string (nbk.numB k)) ∧ Below w.heap.size w w' :=
  fnExactPutNum.spec_any k w (by omega) (by omega) (2 * k.toNat) (by unfold fnExactPutNum.fold; rw [if_neg (by omega)]; omega) (by omega)
theorem num_impl (k : Int) (w : World) (h : 0 ≤ k) (h2 : k ≤ 12000) :
    Calls Try.prog 30 #[.int .i64 k] w fun e w' => e = .returned (.string (nbk.numB k)) ∧ Below w.heap.size w w' :=
  fnExactPutNum.impl_any k w (by omega) (by omega) (2 * k.toNat) (by unfold fnExactPutNum.fold; rw [if_neg (by omega)]; omega) (by omega)
end Go.Proofs.Ytmmmadehifajlaa.nod
