/-
  Drives in plain words: what is right, what is found, put in, taken out; what spec.NameRight answers, as a bool. No condition.
-/
import Derived.Test.YtlcdbkelonbcfaaRwStored
import Derived.Test.YtlcdbkelonbcfaaNameRight
namespace Go.Proofs.Ytlcdbkelonbcfaa.drv
open Go.RowKit Go.Joins
open Go.Proofs.Ytlcdbkelonbcfaa.base Go.Proofs.Ytlcdbkelonbcfaa.blk Go.Proofs.Ytlcdbkelonbcfaa.aid
open Go.Proofs.Ytlcdbkelonbcfaa.row (Rd Own OwnV)
open Go.Proofs.Ytlcdbkelonbcfaa.rwStored (cs)
open Go.Proofs.Ytlcdbkelonbcfaa.fnExactNameRight (Right okAt Says)
set_option linter.unusedVariables false

def okDec (i : Nat) (c : UInt8) : Decidable (okAt i c) := by unfold okAt; exact inferInstance
def nameDec (s : ByteArray) : Decidable (Right s) :=
  haveI : ∀ i c, Decidable (okAt i c) := okDec
  by unfold Right; exact inferInstance
/-- a name is right -/
def nameB (s : ByteArray) : Bool := @decide (Right s) (nameDec s)
theorem nameB_iff (s : ByteArray) : nameB s = true ↔ Right s := ⟨fun h => @of_decide_eq_true (Right s) (nameDec s) h, fun h => @decide_eq_true (Right s) (nameDec s) h⟩
theorem says_name {s : ByteArray} {e : Ending} (h : Says (Right s) e) : e = .returned (.bool (nameB s)) := by
  obtain ⟨b, rfl, hb⟩ := h
  rw [← nameB_iff] at hb
  cases b <;> cases hn : nameB s <;> simp_all
theorem name_spec (s : ByteArray) (w : World) (hs : s.size ≤ 1048576) :
    Calls Try.prog 80 #[.string s] w fun e w' => e = .returned (.bool (nameB s)) ∧ w' = w :=
  (fnExactNameRight.spec_any s w (by unfold maxLen; omega)).mono (fun e w' h => ⟨says_name h.1, h.2⟩)
theorem name_impl (s : ByteArray) (w : World) (hs : s.size ≤ 1048576) :
    Calls Try.prog 81 #[.string s] w fun e w' => e = .returned (.bool (nameB s)) ∧ w' = w :=
  (fnExactNameRight.impl_any s w (by unfold maxLen; omega)).mono (fun e w' h => ⟨says_name h.1, h.2⟩)
theorem name_small {s : ByteArray} (h : nameB s = true) : 1 ≤ s.size ∧ s.size ≤ 80 := ⟨((nameB_iff s).1 h).1, ((nameB_iff s).1 h).2.1⟩

/-- byte by byte -/
def blt (a b : ByteArray) : Bool := Op.bytesLess a.toList b.toList
/-- all texts together -/
def bytes : List (ByteArray × ByteArray × Int) → Int
  | [] => 0
  | f :: r => (f.2.1.size : Int) + bytes r
/-- a file is right, behind the one ahead of it -/
def fileB (p : Option (ByteArray × ByteArray × Int)) (f : ByteArray × ByteArray × Int) : Bool :=
  nameB f.1 && (match p with | none => true | some g => blt g.1 f.1) && decide (f.2.1.size ≤ 20000) && decide (0 ≤ f.2.2) && decide (f.2.2 ≤ (f.2.1.size : Int))
def filesB : Option (ByteArray × ByteArray × Int) → List (ByteArray × ByteArray × Int) → Bool
  | _, [] => true
  | p, f :: r => fileB p f && filesB (some f) r
def driveB (l : List (ByteArray × ByteArray × Int)) (r : Int) : Bool := decide (l.length ≤ 60) && decide (0 ≤ r) && decide (r ≤ 100000) && filesB none l && decide (bytes l ≤ r)
theorem bytes_pos : ∀ l, 0 ≤ bytes l
  | [] => by simp [bytes]
  | f :: r => by have := bytes_pos r; unfold bytes; omega
theorem bytes_app : ∀ l r, bytes (l ++ r) = bytes l + bytes r
  | [], r => by simp [bytes]
  | f :: l, r => by rw [List.cons_append, bytes, bytes, bytes_app l r]; omega
theorem bytes_le : ∀ (l : List (ByteArray × ByteArray × Int)), (∀ f ∈ l, f.2.1.size ≤ 1048576) → bytes l ≤ 1048576 * l.length
  | [], _ => by simp [bytes]
  | f :: r, h => by
    have h1 := bytes_le r (fun x hx => h x (List.mem_cons_of_mem _ hx))
    have h2 := h f (List.mem_cons_self ..)
    unfold bytes
    rw [List.length_cons]
    omega
/-- the one ahead of place i -/
def before (l : List (ByteArray × ByteArray × Int)) (i : Nat) : Option (ByteArray × ByteArray × Int) := if i = 0 then none else l[i - 1]?
theorem filesB_step (l : List (ByteArray × ByteArray × Int)) (i : Nat) (f : ByteArray × ByteArray × Int) (h : l[i]? = some f) : filesB (before l i) (l.drop i) = (fileB (before l i) f && filesB (before l (i + 1)) (l.drop (i + 1))) := by
  have hlt := (List.getElem?_eq_some_iff.1 h).1
  have e : l.drop i = f :: l.drop (i + 1) := by rw [List.drop_eq_getElem_cons hlt, (List.getElem?_eq_some_iff.1 h).2]
  have e2 : before l (i + 1) = some f := by unfold before; rw [if_neg (by omega)]; simpa using h
  rw [e, e2, filesB]
theorem filesB_all : ∀ (p : Option (ByteArray × ByteArray × Int)) (l : List (ByteArray × ByteArray × Int)), filesB p l = true → ∀ f ∈ l, nameB f.1 = true ∧ f.2.1.size ≤ 20000 ∧ 0 ≤ f.2.2 ∧ f.2.2 ≤ (f.2.1.size : Int)
  | p, [], h => by simp
  | p, f :: r, h => by
    rw [filesB, Bool.and_eq_true] at h
    intro x hx
    rcases List.mem_cons.1 hx with rfl | hx
    · have h1 := h.1
      unfold fileB at h1
      simp only [Bool.and_eq_true, decide_eq_true_eq] at h1
      exact ⟨h1.1.1.1.1, h1.1.1.2, h1.1.2, h1.2⟩
    · exact filesB_all (some f) r h.2 x hx
theorem driveB_parts {l : List (ByteArray × ByteArray × Int)} {r : Int} (h : driveB l r = true) : l.length ≤ 60 ∧ 0 ≤ r ∧ r ≤ 100000 ∧ filesB none l = true ∧ bytes l ≤ r := by
  unfold driveB at h
  simp only [Bool.and_eq_true, decide_eq_true_eq] at h
  exact ⟨h.1.1.1.1, h.1.1.1.2, h.1.1.2, h.1.2, h.2⟩
/-- the number of a file, or -1 -/
def findF (n : ByteArray) : List (ByteArray × ByteArray × Int) → Nat → Int
  | [], _ => -1
  | f :: r, i => if f.1 = n then (i : Int) else findF n r (i + 1)
def find (l : List (ByteArray × ByteArray × Int)) (n : ByteArray) : Int := findF n l 0
theorem findF_bd (n : ByteArray) : ∀ (l : List (ByteArray × ByteArray × Int)) (i : Nat), findF n l i = -1 ∨ ∃ k : Nat, findF n l i = ((i + k : Nat) : Int) ∧ k < l.length ∧ ∃ f, l[k]? = some f ∧ f.1 = n
  | [], i => .inl rfl
  | f :: r, i => by
    unfold findF
    split
    · rename_i h
      exact .inr ⟨0, by simp, by simp, f, rfl, h⟩
    · rcases findF_bd n r (i + 1) with h | ⟨k, h1, h2, g, h3, h4⟩
      · exact .inl h
      · exact .inr ⟨k + 1, by rw [h1]; omega, by simp; omega, g, by simpa using h3, h4⟩
theorem find_bd (l : List (ByteArray × ByteArray × Int)) (n : ByteArray) : find l n = -1 ∨ ∃ k : Nat, find l n = (k : Int) ∧ k < l.length ∧ ∃ f, l[k]? = some f ∧ f.1 = n := by
  rcases findF_bd n l 0 with h | ⟨k, h1, h2⟩
  · exact .inl h
  · exact .inr ⟨k, by unfold find; rw [h1]; simp, h2⟩
theorem findF_step (l : List (ByteArray × ByteArray × Int)) (n : ByteArray) (i : Nat) (f : ByteArray × ByteArray × Int) (h : l[i]? = some f) : findF n (l.drop i) i = if f.1 = n then (i : Int) else findF n (l.drop (i + 1)) (i + 1) := by
  have hlt := (List.getElem?_eq_some_iff.1 h).1
  have e : l.drop i = f :: l.drop (i + 1) := by rw [List.drop_eq_getElem_cons hlt, (List.getElem?_eq_some_iff.1 h).2]
  rw [e, findF]
/-- taken out -/
def out (l : List (ByteArray × ByteArray × Int)) (i : Nat) : List (ByteArray × ByteArray × Int) := l.take i ++ l.drop (i + 1)
/-- where a name stands, or would -/
def spot (n : ByteArray) : List (ByteArray × ByteArray × Int) → Nat → Nat
  | [], i => i
  | f :: r, i => if blt f.1 n = true then spot n r (i + 1) else i
/-- put in, in the place of one of its name that there may be -/
def put (l : List (ByteArray × ByteArray × Int)) (f : ByteArray × ByteArray × Int) : List (ByteArray × ByteArray × Int) :=
  l.take (spot f.1 l 0) ++ f :: l.drop (if (l[spot f.1 l 0]?).any (fun g => decide (g.1 = f.1)) = true then spot f.1 l 0 + 1 else spot f.1 l 0)
theorem spot_bd (n : ByteArray) : ∀ (l : List (ByteArray × ByteArray × Int)) (i : Nat), i ≤ spot n l i ∧ spot n l i ≤ i + l.length
  | [], i => by simp [spot]
  | f :: r, i => by
    unfold spot
    split
    · have := spot_bd n r (i + 1); simp; omega
    · simp
theorem spot_step (l : List (ByteArray × ByteArray × Int)) (n : ByteArray) (i : Nat) (f : ByteArray × ByteArray × Int) (h : l[i]? = some f) : spot n (l.drop i) i = if blt f.1 n = true then spot n (l.drop (i + 1)) (i + 1) else i := by
  have hlt := (List.getElem?_eq_some_iff.1 h).1
  have e : l.drop i = f :: l.drop (i + 1) := by rw [List.drop_eq_getElem_cons hlt, (List.getElem?_eq_some_iff.1 h).2]
  rw [e, spot]
/-- an op: kind, name, to, text -/
def opB (k : Int) (n t x : ByteArray) : Bool := nameB n && (if k = 1 then decide (t = ⟨#[]⟩) && decide (x.size ≤ 20000) else if k = 3 then nameB t && decide (x = ⟨#[]⟩) else (decide (k = 2) || decide (k = 4)) && decide (t = ⟨#[]⟩) && decide (x = ⟨#[]⟩))
/-- what a right op does to a right drive: files, room, code -/
def doR (l : List (ByteArray × ByteArray × Int)) (r k : Int) (n t x : ByteArray) : List (ByteArray × ByteArray × Int) × Int × Int :=
  let i := find l n
  if k = 1 then
    if 0 ≤ i then ([], 0, 7)
    else if 60 ≤ l.length ∨ r < bytes l + x.size then ([], 0, 11)
    else (put l (n, x, 0), r, 0)
  else if i < 0 then ([], 0, 8)
  else
    match l[i.toNat]? with
    | none => ([], 0, 8)
    | some f =>
      if k = 2 then (l.set i.toNat (f.1, f.2.1, (f.2.1.size : Int)), r, 0)
      else if k = 3 then (if t = n then (l, r, 0) else (put (out l i.toNat) (t, f.2.1, f.2.2), r, 0))
      else (out l i.toNat, r, 0)
def doT (l : List (ByteArray × ByteArray × Int)) (r k : Int) (n t x : ByteArray) : List (ByteArray × ByteArray × Int) × Int × Int :=
  if driveB l r && opB k n t x then doR l r k n t x else ([], 0, 1)
/-- what is read: text, code -/
def readD (l : List (ByteArray × ByteArray × Int)) (r : Int) (n : ByteArray) : ByteArray × Int :=
  if 20000 < n.size then (⟨#[]⟩, 2) else if driveB l r = true then
    match l[(find l n).toNat]? with
    | none => (⟨#[]⟩, 8)
    | some f => if find l n < 0 then (⟨#[]⟩, 8) else (f.2.1, 0)
  else (⟨#[]⟩, 1)
def namesD (l : List (ByteArray × ByteArray × Int)) (r : Int) : List ByteArray := if driveB l r = true then l.map (fun f => f.1) else []
/-- one file behind the power's going, as keep says k -/
def keepF (f : ByteArray × ByteArray × Int) (k : Int) : ByteArray × ByteArray × Int :=
  let m := f.2.2 + (if 0 < k then min k ((f.2.1.size : Int) - f.2.2) else 0)
  (f.1, f.2.1.extract 0 m.toNat, ((f.2.1.extract 0 m.toNat).size : Int))
def keepL : List (ByteArray × ByteArray × Int) → List Int → List (ByteArray × ByteArray × Int)
  | [], _ => []
  | f :: r, [] => keepF f 0 :: keepL r []
  | f :: r, k :: ks => keepF f k :: keepL r ks
def crashD (l : List (ByteArray × ByteArray × Int)) (r : Int) (ks : List Int) : List (ByteArray × ByteArray × Int) × Int :=
  if 400 < ks.length then ([], 0) else if driveB l r = true then (keepL l ks, r) else (l, r)
end Go.Proofs.Ytlcdbkelonbcfaa.drv
