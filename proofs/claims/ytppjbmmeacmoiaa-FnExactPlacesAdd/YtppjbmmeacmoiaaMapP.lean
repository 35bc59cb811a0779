/-
  The program's map of places by their spots, as it is read: which places it holds; what is found, put in, taken out. No condition.
-/
import Derived.Test.YtppjbmmeacmoiaaCmpI
import Derived.Maps.RangeWalk
import Derived.Maps.Ext
import Derived.Maps.OwnOps
import Derived.DeepKeys4
import Derived.ProofKit
namespace Go.Proofs.Ytppjbmmeacmoiaa.plc
open Go.RowKit Go.Maps
open Go.WideShapes
set_option linter.unusedVariables false
set_option linter.unusedSimpArgs false

def keyV (s : ByteArray × ByteArray) : Value := .agg #[.string s.1, .string s.2]
def klB (s : ByteArray × ByteArray) : List UInt8 := keyBytes [.string s.1.data.toList, .string s.2.data.toList]
/-- what a key reads as -/
def kl (s : ByteArray × ByteArray) : Lit := .string (klB s)
theorem laidOutM : laidOutB Try.prog = true := by kernel_rfl
theorem lawK : Keyed Try.prog 62 := Keyed.of_law (deep_law_laid laidOutM (m := 2) (by omega) (of_decide_eq_true (by kernel_rfl)) (by kernel_rfl) (by kernel_rfl))
theorem isKeyK : Try.prog.keyType 62 = true := by kernel_rfl
theorem cellsK : Try.prog.cellsOf 62 = 2 := by kernel_rfl
theorem cellsS : Try.prog.cellsOf 9 = 1 := by kernel_rfl
theorem sizeK : ∃ n, Try.prog.types.size = n + 1 := ⟨Try.prog.types.size - 1, by have : 0 < Try.prog.types.size := of_decide_eq_true (by kernel_rfl); omega⟩
theorem keyLits_is (a b : Value) : Try.prog.keyLits (Try.prog.types.size + 1) 62 [a, b] = (Try.prog.keyLits Try.prog.types.size 9 [a]).bind (fun x => (Try.prog.keyLits Try.prog.types.size 9 [b]).map (fun y => x ++ y)) := by
  obtain ⟨n, hn⟩ := sizeK
  rw [hn]
  conv => lhs; unfold Program.keyLits
  simp only [Try.underlying62]
  simp [cellsK, cellsS]
  cases Try.prog.keyLits (n + 1) 9 [a] with
  | none => rfl
  | some x =>
    cases Try.prog.keyLits (n + 1) 9 [b] with
    | none => rfl
    | some y => simp
theorem keyLits_string (v : Value) : Try.prog.keyLits Try.prog.types.size 9 [v] = match v with | .string s => if s.size ≤ maxLen then some [.string s.data.toList] else none | _ => none := by
  obtain ⟨n, hn⟩ := sizeK
  rw [hn]
  cases v <;> simp [Program.keyLits, Try.underlying9]
theorem keyOf_is (a b : Value) : keyOf Try.prog 62 (.agg #[a, b]) = (Try.prog.keyLits (Try.prog.types.size + 1) 62 [a, b]).map fun ls => .string (keyBytes ls) := by
  unfold keyOf
  rw [Try.underlying62]
  simp only [isKeyK, Value.formed, Try.underlying62, Value.cells]
  simp [cellsK]
theorem keyOf_spot (s : ByteArray × ByteArray) (h1 : s.1.size ≤ maxLen) (h2 : s.2.size ≤ maxLen) : keyOf Try.prog 62 (keyV s) = some (kl s) := by
  unfold keyV
  rw [keyOf_is, keyLits_is, keyLits_string, keyLits_string]
  simp only
  rw [if_pos h1, if_pos h2]
  rfl
theorem keyOf_inv {v : Value} {l : Lit} (h : keyOf Try.prog 62 v = some l) : ∃ s : ByteArray × ByteArray, v = keyV s ∧ l = kl s ∧ s.1.size ≤ maxLen ∧ s.2.size ≤ maxLen := by
  have h0 := h
  unfold keyOf at h
  rw [Try.underlying62] at h
  simp only [isKeyK, Bool.true_and] at h
  split at h
  · rename_i hf
    simp only [Value.formed, Try.underlying62, cellsK] at hf
    cases v <;> simp at hf
    rename_i cs
    obtain ⟨l0⟩ := cs
    match l0, hf with
    | [a, b], _ =>
      rw [keyOf_is, keyLits_is, keyLits_string, keyLits_string] at h0
      cases a with
      | string s1 =>
        by_cases h1 : s1.size ≤ maxLen
        · cases b with
          | string s2 =>
            by_cases h2 : s2.size ≤ maxLen
            · simp [h1, h2] at h0
              exact ⟨(s1, s2), rfl, by rw [← h0]; rfl, h1, h2⟩
            · simp [h1, h2] at h0
          | _ => simp [h1] at h0
        · simp [h1] at h0
      | _ => simp at h0
  · cases h
theorem kl_inj {s t : ByteArray × ByteArray} (h1 : s.1.size ≤ maxLen) (h2 : s.2.size ≤ maxLen) (h3 : t.1.size ≤ maxLen) (h4 : t.2.size ≤ maxLen) (h : kl s = kl t) : s = t := by
  have e := lawK.inj (keyOf_spot s h1 h2) (by rw [h]; exact keyOf_spot t h3 h4)
  unfold keyV at e
  injection e with e
  simp at e
  exact Prod.ext e.1 e.2

/-- how a place reads -/
def dat (p : Pl) : DataW Unit := .agg [.lit (.string p.1.data.toList), .lit (.string p.2.1.data.toList), .lit (.int .i64 p.2.2.1), .lit (.int .i64 p.2.2.2.1), .lit (.int .i64 p.2.2.2.2)]
def R (v : Value) : Option (DataW Unit × List MemPlace) :=
  match v with
  | .agg cs => match cs.toList with
    | [.string a, .string b, .int .i64 c, .int .i64 d, .int .i64 e] => some (dat (a, b, c, d, e), [])
    | _ => none
  | _ => none
theorem R_mk (p : Pl) : R (plV p) = some (dat p, []) := rfl
theorem R_inv {v : Value} {y : DataW Unit × List MemPlace} (h : R v = some y) : ∃ p : Pl, v = plV p ∧ y = (dat p, []) := by
  unfold R at h
  cases v <;> simp at h
  rename_i cs
  obtain ⟨l⟩ := cs
  simp only at h
  split at h
  · cases h
    refine ⟨(_, _, _, _, _), ?_, rfl⟩
    unfold plV
    simp_all
  · cases h
theorem dat_inj {p q : Pl} (h : dat p = dat q) : p = q := by
  obtain ⟨p0, p1, p2, p3, p4⟩ := p
  obtain ⟨q0, q1, q2, q3, q4⟩ := q
  unfold dat at h
  simp at h
  obtain ⟨h0, h1, rfl, rfl, rfl⟩ := h
  rw [ByteArray.ext h0, ByteArray.ext h1]

def Fits (L : List Pl) : Prop := ∀ p ∈ L, p.1.size ≤ 1048576 ∧ p.2.1.size ≤ 1048576
theorem fit_max {n : Nat} (h : n ≤ 1048576) : n ≤ maxLen := by unfold maxLen; omega
/-- the map that reads as D holds just these places -/
structure HoldsM (D : DataW Unit) (L : List Pl) : Prop where
  isMap : IsMap D
  apart : Apart L
  fits : Fits L
  at_ : ∀ p ∈ L, ∀ z, D.atKey (kl (sp p)) z = dat p
  only : ∀ k, Maps.has D k = true → ∃ p ∈ L, k = kl (sp p)
theorem HoldsM.nil : HoldsM (.map []) [] := ⟨isMap_empty, by simp [Apart], by simp [Fits], by simp, by intro k h; simp [Maps.has] at h⟩
theorem HoldsM.there {D : DataW Unit} {L : List Pl} (h : HoldsM D L) {p : Pl} (hp : p ∈ L) : Maps.has D (kl (sp p)) = true := has_true_of_atKey (h.at_ p hp)
theorem HoldsM.hasS {D : DataW Unit} {L : List Pl} (h : HoldsM D L) (s : ByteArray × ByteArray) (h1 : s.1.size ≤ 1048576) (h2 : s.2.size ≤ 1048576) : Maps.has D (kl s) = hasS L s := by
  cases hs : plc.hasS L s with
  | true =>
    obtain ⟨p, hp, rfl⟩ := List.mem_map.1 ((hasS_iff _ _).1 hs)
    exact h.there hp
  | false =>
    cases hh : Maps.has D (kl s) with
    | false => rfl
    | true =>
      obtain ⟨p, hp, e⟩ := h.only _ hh
      have hf := h.fits p hp
      have := kl_inj (s := s) (t := sp p) (fit_max h1) (fit_max h2) (fit_max hf.1) (fit_max hf.2) e
      exact absurd (List.mem_map.2 ⟨p, hp, this.symm⟩) ((hasS_not _ _).1 hs)
theorem kl_ne {p q : Pl} (hp : p.1.size ≤ 1048576 ∧ p.2.1.size ≤ 1048576) (hq : q.1.size ≤ 1048576 ∧ q.2.1.size ≤ 1048576) (h : sp p ≠ sp q) : kl (sp p) ≠ kl (sp q) :=
  fun e => h (kl_inj (fit_max hp.1) (fit_max hp.2) (fit_max hq.1) (fit_max hq.2) e)
theorem HoldsM.put {D : DataW Unit} {L : List Pl} (h : HoldsM D L) (x : Pl) (hx : sp x ∉ L.map sp) (h1 : x.1.size ≤ 1048576) (h2 : x.2.1.size ≤ 1048576) : HoldsM (D.put (kl (sp x)) (dat x)) (L ++ [x]) := by
  have hfx : Fits (L ++ [x]) := by
    intro p hp
    rcases List.mem_append.1 hp with hp | hp
    · exact h.fits p hp
    · simp at hp; subst hp; exact ⟨h1, h2⟩
  refine ⟨h.isMap.put _ _, ?_, hfx, ?_, ?_⟩
  · unfold Apart at *
    rw [List.map_append, List.nodup_append]
    refine ⟨h.apart, by simp, ?_⟩
    intro a ha b hb e
    simp at hb
    subst hb
    subst e
    exact hx ha
  · intro p hp z
    rcases List.mem_append.1 hp with hp | hp
    · rw [atKey_put_other (kl_ne (h.fits p hp) ⟨h1, h2⟩ (fun e => hx (by rw [← e]; exact List.mem_map_of_mem hp)))]
      exact h.at_ p hp z
    · simp at hp
      subst hp
      exact atKey_put_same (k := kl (sp p)) h.isMap (by exact trivial) _ _
  · intro k hk
    by_cases e : k = kl (sp x)
    · exact ⟨x, by simp, e⟩
    · rw [has_put_other e] at hk
      obtain ⟨p, hp, hpe⟩ := h.only k hk
      exact ⟨p, List.mem_append_left _ hp, hpe⟩
theorem inj_on : ∀ {L : List Pl}, (L.map sp).Nodup → ∀ {p q : Pl}, p ∈ L → q ∈ L → sp p = sp q → p = q
  | [], _, p, q, hp, _, _ => by cases hp
  | x :: L, h, p, q, hp, hq, e => by
    rw [List.map_cons, List.nodup_cons] at h
    rcases List.mem_cons.1 hp with hp2 | hp2
    · rcases List.mem_cons.1 hq with hq2 | hq2
      · rw [hp2, hq2]
      · exact absurd (by rw [← hp2, e]; exact List.mem_map_of_mem hq2) h.1
    · rcases List.mem_cons.1 hq with hq2 | hq2
      · exact absurd (by rw [← hq2, ← e]; exact List.mem_map_of_mem hp2) h.1
      · exact inj_on h.2 hp2 hq2 e
theorem apart_filter {L : List Pl} (h : Apart L) (f : Pl → Bool) : Apart (L.filter f) := by
  unfold Apart at *
  exact h.sublist ((List.filter_sublist).map sp)
theorem HoldsM.del {D : DataW Unit} {L : List Pl} (h : HoldsM D L) (f : Pl → Bool) (q : Pl) (hq : q ∈ L) (hf : ∀ p ∈ L, f p = false ↔ p = q) : HoldsM (D.del (kl (sp q))) (L.filter f) := by
  refine ⟨h.isMap.del _, apart_filter h.apart f, fun p hp => h.fits p (List.mem_filter.1 hp).1, ?_, ?_⟩
  · intro p hp z
    obtain ⟨hp, hpf⟩ := List.mem_filter.1 hp
    have hne : p ≠ q := fun e => by rw [(hf p hp).2 e] at hpf; cases hpf
    have hsp : sp p ≠ sp q := fun e => hne (by
      have ha := h.apart
      unfold Apart at ha
      exact inj_on ha hp hq e)
    rw [atKey_del_other (kl_ne (h.fits p hp) (h.fits q hq) hsp)]
    exact h.at_ p hp z
  · intro k hk
    by_cases e : k = kl (sp q)
    · subst e
      rw [has_del_same] at hk
      cases hk
    · rw [has_del_other e] at hk
      obtain ⟨p, hp, hpe⟩ := h.only k hk
      refine ⟨p, List.mem_filter.2 ⟨hp, ?_⟩, hpe⟩
      cases hfp : f p with
      | true => rfl
      | false =>
        rw [(hf p hp).1 hfp] at hpe
        exact absurd hpe e
end Go.Proofs.Ytppjbmmeacmoiaa.plc
