/-
  The bytes of places in plain words; what PutNum and PutText answer for them. No condition.
-/
import Derived.Test.YtlcdbkelonbcfaaPlcP
import Derived.Test.YtlcdbkelonbcfaaNumBk
import Derived.Test.YtlcdbkelonbcfaaPutText
namespace Go.Proofs.Ytlcdbkelonbcfaa.plc
open Go.RowKit Go.Joins
open Go.Proofs.Ytlcdbkelonbcfaa.base Go.Proofs.Ytlcdbkelonbcfaa.blk Go.Proofs.Ytlcdbkelonbcfaa.aid
open Go.Proofs.Ytlcdbkelonbcfaa.obj (objB objB_small)
set_option linter.unusedVariables false

/-- a place's bytes -/
def recP (p : Pl) : ByteArray := p.1 ++ (fnExactPutText.pre p.2.1.size ++ p.2.1) ++ nbk.numB p.2.2.1 ++ nbk.numB p.2.2.2.1 ++ nbk.numB p.2.2.2.2
def recsP (l : List Pl) : List UInt8 := l.flatMap (fun p => (recP p).data.toList)
/-- the bytes of right places -/
def bytesL (l : List Pl) : List UInt8 := (nbk.numB l.length).data.toList ++ recsP l
def bytesP (l : List Pl) : ByteArray := if placesB l = true then ⟨(bytesL l).toArray⟩ else ⟨#[]⟩
theorem len_list (s : ByteArray) : s.data.toList.length = s.size := by rw [Array.length_toList]; rfl
theorem app_list (s t : ByteArray) : (s ++ t).data.toList = s.data.toList ++ t.data.toList := by
  have : (s ++ t).data = s.data ++ t.data := by simp
  rw [this, Array.toList_append]
theorem plB_small {p : Pl} (h : plB p = true) : p.1.size = 32 ∧ p.2.1.size ≤ 60 ∧ 0 ≤ p.2.2.1 ∧ p.2.2.1 ≤ 2 ∧ 0 ≤ p.2.2.2.1 ∧ p.2.2.2.1 ≤ 12000 ∧ 0 ≤ p.2.2.2.2 ∧ p.2.2.2.2 ≤ 2000 := by
  unfold plB at h
  simp only [Bool.and_eq_true, Bool.or_eq_true, decide_eq_true_eq] at h
  obtain ⟨⟨⟨⟨h1, h2⟩, h3⟩, h4, h5⟩, h6, h7⟩ := h
  exact ⟨h1, objB_small h2, by omega, by omega, h4, h5, h6, h7⟩
theorem recP_size {p : Pl} (h : plB p = true) : (recP p).size ≤ 222 := by
  obtain ⟨h1, h2, h3, h4, h5, h6, h7, h8⟩ := plB_small h
  have e1 := fnExactPutText.pre_size p.2.1.size
  have e2 := nbk.numB_len (k := p.2.2.1) (by omega)
  have e3 := nbk.numB_len (k := p.2.2.2.1) (by omega)
  have e4 := nbk.numB_len (k := p.2.2.2.2) (by omega)
  unfold recP
  simp only [ByteArray.size_append]
  omega
theorem recsP_snoc {l : List Pl} {k : Nat} {x : Pl} (h : l[k]? = some x) : recsP (l.take (k + 1)) = recsP (l.take k) ++ (recP x).data.toList := by
  unfold recsP
  rw [List.take_add_one, h, List.flatMap_append]
  simp
theorem recsP_len : ∀ (l : List Pl), (∀ p ∈ l, plB p = true) → (recsP l).length ≤ 222 * l.length
  | [], _ => by simp [recsP]
  | p :: l, h => by
    have h1 := recsP_len l (fun q hq => h q (List.mem_cons_of_mem _ hq))
    have h2 := recP_size (h p (by simp))
    have e : recsP (p :: l) = (recP p).data.toList ++ recsP l := by simp [recsP]
    rw [e, List.length_append, len_list, List.length_cons]
    omega
theorem num_spec (k : Int) (w : World) (h : 0 ≤ k) (h2 : k ≤ 12000) :
    Calls Try.prog 54 #[.int .i64 k] w fun e w' => e = .returned (.string (nbk.numB k)) ∧ Below w.heap.size w w' :=
  fnExactPutNum.spec_any k w (by omega) (by omega) (2 * k.toNat) (by unfold fnExactPutNum.fold; rw [if_neg (by omega)]; omega) (by omega)
theorem num_impl (k : Int) (w : World) (h : 0 ≤ k) (h2 : k ≤ 12000) :
    Calls Try.prog 56 #[.int .i64 k] w fun e w' => e = .returned (.string (nbk.numB k)) ∧ Below w.heap.size w w' :=
  fnExactPutNum.impl_any k w (by omega) (by omega) (2 * k.toNat) (by unfold fnExactPutNum.fold; rw [if_neg (by omega)]; omega) (by omega)
end Go.Proofs.Ytlcdbkelonbcfaa.plc
