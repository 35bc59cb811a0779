/-
  What slices.Grow and slices.Concat of rows of places, and the spot of a place, answer and leave. Conditions: at most 1,048,576 places, which lie in memory.
  The program's map of places by their spots, as it is read: which places it holds; what is found, put in, taken out. No condition.
  What spec.l10Find and spec.PlacesFind answer and leave. Conditions: places that lie in memory, of texts of at most 1,048,576 bytes.
  What impl.bySpot answers and leaves. Conditions: at most 1,048,576 places, which lie in memory, of texts of at most 1,048,576 bytes.
  What impl.placeRight and impl.PlacesRight answer and leave. Conditions: places that lie in memory, of texts of at most 1,048,576 bytes.
  What impl.copyPlace, the function that impl.PlacesFind hands on, and impl.PlacesFind answer and leave. Conditions: places that lie in memory, of texts of at most 1,048,576 bytes.
  slices.SortFunc of a row of places of our own, by impl.comparePlaces, in words of what it owns. Condition: at most 1,048,576 places.
  What impl.rising answers and leaves. Conditions: at most 1,048,576 places, of texts of at most 1,048,576 bytes.
-/
import Derived.Test.YtppjbmmeacmoiaaDoorZPlB
import Derived.Test.YtppjbmmeacmoiaaDoorKindI
import Derived.Test.YtppjbmmeacmoiaaDoorClone
import Derived.Test.YtppjbmmeacmoiaaDoorSlLay
import Derived.Maps.RangeWalk
import Derived.Maps.Ext
import Derived.Maps.OwnOps
import Derived.DeepKeys4
import Derived.ProofKit
import Derived.Carry
import Derived.Shelf.SlSortCmp.NoneTotal
namespace Go.Proofs.YtppjbmmeacmoiaaDoor.plc
open Go.RowKit Go.Joins Go.Sort
open Go.Proofs.YtppjbmmeacmoiaaDoor.base Go.Proofs.YtppjbmmeacmoiaaDoor.blk Go.Proofs.YtppjbmmeacmoiaaDoor.aid
open Go.Proofs.YtppjbmmeacmoiaaDoor.row (Rd Own OwnV appSem app_fold)
open Go.Proofs.YtppjbmmeacmoiaaDoor.rwPlace (cs el)
set_option linter.unusedVariables false
set_option linter.unusedSimpArgs false
attribute [local go_sem ↓] app_fold slice_fold

set_option maxRecDepth 100000 in
set_option maxHeartbeats 1000000 in
theorem grow_any (n : Nat) (w : World) (hn : n ≤ 1048576) :
    Calls Tryd.prog 39 #[.slice none 0 0, .int .i64 (n : Int)] w fun e w' => ∃ v, e = .returned v ∧ w'.ownsRow w.heap.size 33 5 v 0 (cs []) ∧ Below w.heap.size w w' := by
  by_cases h0 : n = 0
  · subst h0
    go_enter Tryd.func39, Tryd.ntmps39
    go_wp2
    go_ret
    exact ⟨_, rfl, World.ownsRow_nil _ _ _ _, Below.refl _ _⟩
  · have hp : 0 < n := by omega
    have hpi : 0 < (n : Int) := by omega
    have hni : (n : Int) ≤ 1048576 := by omega
    obtain ⟨C, w1, happ, hown, hC, hb⟩ := app_zeros w n hp hn
    have h1 : (sliceSem 22 (.slice none 0 0) none (some (.int .i64 0)) none).run Tryd.prog w = .ok (.slice none 0 0) w := sl_hi none 0 0 0 (by omega) w
    have h2 : (sliceSem 22 (.slice (some ⟨w.heap.size, 0, none⟩) n C) none (some (.int .i64 0)) none).run Tryd.prog w1 = .ok (.slice (some ⟨w.heap.size, 0, none⟩) 0 C) w1 := sl_hi (some ⟨w.heap.size, 0, none⟩) n C 0 (by omega) w1
    have HO := mkHid (And.intro hown hb)
    clear hown hb
    go_enter Tryd.func39, Tryd.ntmps39
    go_wp2
    go_ret
    exact ⟨_, rfl, HO.out.1, HO.out.2⟩
def sv (x : Option Addr × Nat × List Pl) : Value := .slice x.1 x.2.2.length x.2.1
def allP (ls : List (Option Addr × Nat × List Pl)) : List Pl := (ls.map (fun x => x.2.2)).flatten
theorem allP_snoc (ls : List (Option Addr × Nat × List Pl)) (k : Nat) (x : Option Addr × Nat × List Pl) (h : ls[k]? = some x) : allP (ls.take (k + 1)) = allP (ls.take k) ++ x.2.2 := by
  unfold allP
  rw [List.take_add_one, h]
  simp
theorem allP_le (ls : List (Option Addr × Nat × List Pl)) (k : Nat) : (allP (ls.take k)).length ≤ (allP ls).length := by
  have e : allP ls = allP (ls.take k) ++ allP (ls.drop k) := by
    unfold allP
    rw [← List.flatten_append, ← List.map_append, List.take_append_drop]
  rw [e, List.length_append]
  omega
set_option maxRecDepth 100000 in
set_option maxHeartbeats 2000000 in
theorem concat_any (a0 : Option Addr) (c0 : Nat) (ls : List (Option Addr × Nat × List Pl)) (w : World) (hr : Rd w a0 (ls.map sv)) (hls : ∀ x ∈ ls, Rd w x.1 (cs x.2.2)) (hn : ls.length ≤ 100) (ht : (allP ls).length ≤ 1048576) :
    Calls Tryd.prog 26 #[.slice a0 ls.length c0] w fun e w' => ∃ v, e = .returned v ∧ w'.ownsRow w.heap.size 33 5 v (allP ls).length (cs (allP ls)) ∧ Below w.heap.size w w' := by
  have hni : (ls.length : Int) ≤ 100 := by omega
  have HR := mkHid hr
  have HL := mkHid hls
  have HG := mkHid (fun (n : Nat) wx (h : n ≤ 1048576) => grow_any n wx h)
  have HT := mkHid ht
  clear hr hls ht
  go_enter Tryd.func26, Tryd.ntmps26
  go_wp2_with fail
  go_loopw [3, 5, 11] (fun z s i wr => ∃ k : Nat, k ≤ ls.length ∧ i = .int .i64 k ∧ z = .int .i64 ((allP (ls.take k)).length : Nat) ∧ wr = w)
    (fun _ _ i _ => ls.length - (intOf i).toNat)
  case atStart => exact ⟨0, Nat.zero_le _, rfl, by simp [allP], rfl⟩
  case round =>
    obtain ⟨k, hk, rfl, rfl, hw⟩ := hrel
    have hw' := hw.symm
    subst hw'
    clear hw
    by_cases hlt : k < ls.length
    · have hlti : (k : Int) < (ls.length : Int) := by omega
      obtain ⟨⟨a, c, l⟩, hx⟩ : ∃ y, ls[k]? = some y := ⟨_, List.getElem?_eq_getElem hlt⟩
      obtain ⟨b, off, rfl, hc⟩ := HR.out k (sv (a, c, l)) (by simp [hx])
      simp only [sv] at hc
      have hs := mkHid (allP_snoc ls k _ hx)
      have hle := allP_le ls (k + 1)
      have hle2 := HT.out
      have hz : (((allP (ls.take k)).length : Nat) : Int) + (l.length : Int) = (((allP (ls.take (k + 1))).length : Nat) : Int) := by rw [hs.out, List.length_append]; simp
      have hz3 : (((allP (ls.take (k + 1))).length : Nat) : Int) ≤ 1048576 := by omega
      have hz5 : (l.length : Int) ≤ 1048576 := by omega
      have hz6 : (((allP (ls.take k)).length : Nat) : Int) ≤ 1048576 := by omega
      generalize hn1 : (allP (ls.take (k + 1))).length = n1 at *
      have HN1 := mkHid hn1
      clear hn1
      generalize (allP (ls.take k)).length = n0 at *
      have HZ := mkHid hz
      have hneg : ((n0 : Int) + (l.length : Int) < 0) = False := eq_false (by omega)
      clear hx hs hle hle2 hz
      go_wp2
      exact ⟨⟨k + 1, by omega, by go_num, by rw [HN1.out, HZ.out], by first | rfl | trivial⟩, by simp [intOf]; omega⟩
    · obtain rfl : k = ls.length := by omega
      rw [List.take_of_length_le (Nat.le_refl _)]
      have HG2 := mkHid (HG.out (allP ls).length w HT.out)
      generalize hN : (allP ls).length = N at *
      go_wp2_with fail
      refine HG2.out.mono ?_
      rintro e w1 ⟨v, rfl, hown, hb⟩
      have O1 := mkHid (And.intro hown hb)
      clear hown hb HG HG2
      go_wp2_with fail
      go_loopw [6, 8, 27] (fun v s i wr => ∃ k : Nat, k ≤ ls.length ∧ i = .int .i64 k ∧ Hid (wr.ownsRow w.heap.size 33 5 v (allP (ls.take k)).length (cs (allP (ls.take k))) ∧ Below w.heap.size w wr))
        (fun _ _ i _ => ls.length - (intOf i).toNat)
      case atStart => exact ⟨0, Nat.zero_le _, rfl, mkHid (by simpa [allP] using O1.out)⟩
      case round =>
        obtain ⟨k, hk, rfl, hO⟩ := hrel
        by_cases hlt : k < ls.length
        · have hlti : (k : Int) < (ls.length : Int) := by omega
          obtain ⟨⟨a, c, l⟩, hx⟩ : ∃ y, ls[k]? = some y := ⟨_, List.getElem?_eq_getElem hlt⟩
          obtain ⟨b, off, rfl, hc⟩ := HR.out k (sv (a, c, l)) (by simp [hx])
          simp only [sv] at hc
          have hc2 := (hO.out.2.cell (p := ⟨b, off + k, none⟩) (World.block_lt_of_cell? w _ hc)).trans hc
          have hs := allP_snoc ls k _ hx
          have hle := allP_le ls (k + 1)
          have hle2 := HT.out
          have hrl := (HL.out _ (List.mem_of_getElem? hx)).below hO.out.2
          simp only at hs hrl
          obtain ⟨v', w2, happ, hown2, hgr⟩ := appRP wr w.heap.size _ _ _ hO.out.1 hO.out.2.size a c l hrl (by rw [hs, List.length_append] at hle; omega)
          have N1 : Hid (w2.ownsRow w.heap.size 33 5 v' (allP (ls.take (k + 1))).length (cs (allP (ls.take (k + 1)))) ∧ Below w.heap.size w w2) := mkHid ⟨by rw [hs, List.length_append]; exact hown2, hO.out.2.grown hgr hO.out.2.size (fun j hj => (hO.out.1.lt j hj).1)⟩
          clear hx hs hle hle2 hrl hown2 hgr hO hc
          go_wp2
          exact ⟨⟨k + 1, by omega, by go_num, N1⟩, by simp [intOf]; omega⟩
        · obtain rfl : k = ls.length := by omega
          have O2 := hO.out
          rw [List.take_of_length_le (Nat.le_refl _), hN] at O2
          have O3 := mkHid O2
          clear O2 hO
          go_wp2
          go_ret
          exact ⟨_, rfl, by rw [hN]; exact O3.out.1, O3.out.2⟩

def spO (s : ByteArray × ByteArray) : Obj := .cells #[.string s.1, .string s.2] 43
theorem spot_any (x0 x1 : ByteArray) (x2 x3 x4 : Int) (w : World) :
    Calls Tryd.prog 27 #[.agg #[.string x0, .string x1, .int .i64 x2, .int .i64 x3, .int .i64 x4]] w fun e w' => e = .returned (.agg #[.string x0, .string x1]) ∧ w' = (w.alloc (.cells #[.string x0, .string x1, .int .i64 x2, .int .i64 x3, .int .i64 x4] 33)).alloc (.cells #[.string x0, .string x1] 43) := by
  go_enter Tryd.func27, Tryd.ntmps27
  go_wp2
  exact bodyPost_ret (v := .agg #[.string x0, .string x1]) (by simp [results, Tryd.results27, go_sem]) rfl ⟨rfl, rfl⟩
end Go.Proofs.YtppjbmmeacmoiaaDoor.plc
namespace Go.Proofs.YtppjbmmeacmoiaaDoor.plc
open Go.RowKit Go.Maps
open Go.WideShapes
set_option maxRecDepth 100000
set_option linter.unusedVariables false
set_option linter.unusedSimpArgs false

def keyV (s : ByteArray × ByteArray) : Value := .agg #[.string s.1, .string s.2]
def klB (s : ByteArray × ByteArray) : List UInt8 := keyBytes [.string s.1.data.toList, .string s.2.data.toList]
/-- what a key reads as -/
def kl (s : ByteArray × ByteArray) : Lit := .string (klB s)
theorem laidOutM : laidOutB Tryd.prog = true := by kernel_rfl
theorem lawK : Keyed Tryd.prog 43 := Keyed.of_law (deep_law_laid laidOutM (m := 2) (by omega) (of_decide_eq_true (by kernel_rfl)) (by kernel_rfl) (by kernel_rfl))
theorem isKeyK : Tryd.prog.keyType 43 = true := by kernel_rfl
theorem cellsK : Tryd.prog.cellsOf 43 = 2 := by kernel_rfl
theorem cellsS : Tryd.prog.cellsOf 9 = 1 := by kernel_rfl
theorem sizeK : ∃ n, Tryd.prog.types.size = n + 1 := ⟨Tryd.prog.types.size - 1, by have : 0 < Tryd.prog.types.size := of_decide_eq_true (by kernel_rfl); omega⟩
theorem keyLits_is (a b : Value) : Tryd.prog.keyLits (Tryd.prog.types.size + 1) 43 [a, b] = (Tryd.prog.keyLits Tryd.prog.types.size 9 [a]).bind (fun x => (Tryd.prog.keyLits Tryd.prog.types.size 9 [b]).map (fun y => x ++ y)) := by
  obtain ⟨n, hn⟩ := sizeK
  rw [hn]
  conv => lhs; unfold Program.keyLits
  simp only [Tryd.underlying43]
  simp [cellsK, cellsS]
  cases Tryd.prog.keyLits (n + 1) 9 [a] with
  | none => rfl
  | some x =>
    cases Tryd.prog.keyLits (n + 1) 9 [b] with
    | none => rfl
    | some y => simp
theorem keyLits_string (v : Value) : Tryd.prog.keyLits Tryd.prog.types.size 9 [v] = match v with | .string s => if s.size ≤ maxLen then some [.string s.data.toList] else none | _ => none := by
  obtain ⟨n, hn⟩ := sizeK
  rw [hn]
  cases v <;> simp [Program.keyLits, Tryd.underlying9]
theorem keyOf_is (a b : Value) : keyOf Tryd.prog 43 (.agg #[a, b]) = (Tryd.prog.keyLits (Tryd.prog.types.size + 1) 43 [a, b]).map fun ls => .string (keyBytes ls) := by
  unfold keyOf
  rw [Tryd.underlying43]
  simp only [isKeyK, Value.formed, Tryd.underlying43, Value.cells]
  simp [cellsK]
theorem keyOf_spot (s : ByteArray × ByteArray) (h1 : s.1.size ≤ maxLen) (h2 : s.2.size ≤ maxLen) : keyOf Tryd.prog 43 (keyV s) = some (kl s) := by
  unfold keyV
  rw [keyOf_is, keyLits_is, keyLits_string, keyLits_string]
  simp only
  rw [if_pos h1, if_pos h2]
  rfl
theorem keyOf_inv {v : Value} {l : Lit} (h : keyOf Tryd.prog 43 v = some l) : ∃ s : ByteArray × ByteArray, v = keyV s ∧ l = kl s ∧ s.1.size ≤ maxLen ∧ s.2.size ≤ maxLen := by
  have h0 := h
  unfold keyOf at h
  rw [Tryd.underlying43] at h
  simp only [isKeyK, Bool.true_and] at h
  split at h
  · rename_i hf
    simp only [Value.formed, Tryd.underlying43, cellsK] at hf
    cases v <;> simp at hf
    rename_i cs
    obtain ⟨l0⟩ := cs
    match l0, hf with
    | [a, b], _ =>
      rw [keyOf_is, keyLits_is, keyLits_string, keyLits_string] at h0
      cases a with
      | string s1 =>
        by_cases h1 : s1.size ≤ maxLen
        · cases b with
          | string s2 =>
            by_cases h2 : s2.size ≤ maxLen
            · simp [h1, h2] at h0
              exact ⟨(s1, s2), rfl, by rw [← h0]; rfl, h1, h2⟩
            · simp [h1, h2] at h0
          | _ => simp [h1] at h0
        · simp [h1] at h0
      | _ => simp at h0
  · cases h
theorem kl_inj {s t : ByteArray × ByteArray} (h1 : s.1.size ≤ maxLen) (h2 : s.2.size ≤ maxLen) (h3 : t.1.size ≤ maxLen) (h4 : t.2.size ≤ maxLen) (h : kl s = kl t) : s = t := by
  have e := lawK.inj (keyOf_spot s h1 h2) (by rw [h]; exact keyOf_spot t h3 h4)
  unfold keyV at e
  injection e with e
  simp at e
  exact Prod.ext e.1 e.2

/-- how a place reads -/
def dat (p : Pl) : DataW Unit := .agg [.lit (.string p.1.data.toList), .lit (.string p.2.1.data.toList), .lit (.int .i64 p.2.2.1), .lit (.int .i64 p.2.2.2.1), .lit (.int .i64 p.2.2.2.2)]
def R (v : Value) : Option (DataW Unit × List MemPlace) :=
  match v with
  | .agg cs => match cs.toList with
    | [.string a, .string b, .int .i64 c, .int .i64 d, .int .i64 e] => some (dat (a, b, c, d, e), [])
    | _ => none
  | _ => none
theorem R_mk (p : Pl) : R (plV p) = some (dat p, []) := rfl
theorem R_inv {v : Value} {y : DataW Unit × List MemPlace} (h : R v = some y) : ∃ p : Pl, v = plV p ∧ y = (dat p, []) := by
  unfold R at h
  cases v <;> simp at h
  rename_i cs
  obtain ⟨l⟩ := cs
  simp only at h
  split at h
  · cases h
    refine ⟨(_, _, _, _, _), ?_, rfl⟩
    unfold plV
    simp_all
  · cases h
theorem dat_inj {p q : Pl} (h : dat p = dat q) : p = q := by
  obtain ⟨p0, p1, p2, p3, p4⟩ := p
  obtain ⟨q0, q1, q2, q3, q4⟩ := q
  unfold dat at h
  simp at h
  obtain ⟨h0, h1, rfl, rfl, rfl⟩ := h
  rw [ByteArray.ext h0, ByteArray.ext h1]

def Fits (L : List Pl) : Prop := ∀ p ∈ L, p.1.size ≤ 1048576 ∧ p.2.1.size ≤ 1048576
theorem fit_max {n : Nat} (h : n ≤ 1048576) : n ≤ maxLen := by unfold maxLen; omega
/-- the map that reads as D holds just these places -/
structure HoldsM (D : DataW Unit) (L : List Pl) : Prop where
  isMap : IsMap D
  apart : Apart L
  fits : Fits L
  at_ : ∀ p ∈ L, ∀ z, D.atKey (kl (sp p)) z = dat p
  only : ∀ k, Maps.has D k = true → ∃ p ∈ L, k = kl (sp p)
theorem HoldsM.nil : HoldsM (.map []) [] := ⟨isMap_empty, by simp [Apart], by simp [Fits], by simp, by intro k h; simp [Maps.has] at h⟩
theorem HoldsM.there {D : DataW Unit} {L : List Pl} (h : HoldsM D L) {p : Pl} (hp : p ∈ L) : Maps.has D (kl (sp p)) = true := has_true_of_atKey (h.at_ p hp)
theorem HoldsM.hasS {D : DataW Unit} {L : List Pl} (h : HoldsM D L) (s : ByteArray × ByteArray) (h1 : s.1.size ≤ 1048576) (h2 : s.2.size ≤ 1048576) : Maps.has D (kl s) = hasS L s := by
  cases hs : plc.hasS L s with
  | true =>
    obtain ⟨p, hp, rfl⟩ := List.mem_map.1 ((hasS_iff _ _).1 hs)
    exact h.there hp
  | false =>
    cases hh : Maps.has D (kl s) with
    | false => rfl
    | true =>
      obtain ⟨p, hp, e⟩ := h.only _ hh
      have hf := h.fits p hp
      have := kl_inj (s := s) (t := sp p) (fit_max h1) (fit_max h2) (fit_max hf.1) (fit_max hf.2) e
      exact absurd (List.mem_map.2 ⟨p, hp, this.symm⟩) ((hasS_not _ _).1 hs)
theorem kl_ne {p q : Pl} (hp : p.1.size ≤ 1048576 ∧ p.2.1.size ≤ 1048576) (hq : q.1.size ≤ 1048576 ∧ q.2.1.size ≤ 1048576) (h : sp p ≠ sp q) : kl (sp p) ≠ kl (sp q) :=
  fun e => h (kl_inj (fit_max hp.1) (fit_max hp.2) (fit_max hq.1) (fit_max hq.2) e)
theorem HoldsM.put {D : DataW Unit} {L : List Pl} (h : HoldsM D L) (x : Pl) (hx : sp x ∉ L.map sp) (h1 : x.1.size ≤ 1048576) (h2 : x.2.1.size ≤ 1048576) : HoldsM (D.put (kl (sp x)) (dat x)) (L ++ [x]) := by
  have hfx : Fits (L ++ [x]) := by
    intro p hp
    rcases List.mem_append.1 hp with hp | hp
    · exact h.fits p hp
    · simp at hp; subst hp; exact ⟨h1, h2⟩
  refine ⟨h.isMap.put _ _, ?_, hfx, ?_, ?_⟩
  · unfold Apart at *
    rw [List.map_append, List.nodup_append]
    refine ⟨h.apart, by simp, ?_⟩
    intro a ha b hb e
    simp at hb
    subst hb
    subst e
    exact hx ha
  · intro p hp z
    rcases List.mem_append.1 hp with hp | hp
    · rw [atKey_put_other (kl_ne (h.fits p hp) ⟨h1, h2⟩ (fun e => hx (by rw [← e]; exact List.mem_map_of_mem hp)))]
      exact h.at_ p hp z
    · simp at hp
      subst hp
      exact atKey_put_same (k := kl (sp p)) h.isMap (by exact trivial) _ _
  · intro k hk
    by_cases e : k = kl (sp x)
    · exact ⟨x, by simp, e⟩
    · rw [has_put_other e] at hk
      obtain ⟨p, hp, hpe⟩ := h.only k hk
      exact ⟨p, List.mem_append_left _ hp, hpe⟩
theorem inj_on : ∀ {L : List Pl}, (L.map sp).Nodup → ∀ {p q : Pl}, p ∈ L → q ∈ L → sp p = sp q → p = q
  | [], _, p, q, hp, _, _ => by cases hp
  | x :: L, h, p, q, hp, hq, e => by
    rw [List.map_cons, List.nodup_cons] at h
    rcases List.mem_cons.1 hp with hp2 | hp2
    · rcases List.mem_cons.1 hq with hq2 | hq2
      · rw [hp2, hq2]
      · exact absurd (by rw [← hp2, e]; exact List.mem_map_of_mem hq2) h.1
    · rcases List.mem_cons.1 hq with hq2 | hq2
      · exact absurd (by rw [← hq2, ← e]; exact List.mem_map_of_mem hp2) h.1
      · exact inj_on h.2 hp2 hq2 e
theorem apart_filter {L : List Pl} (h : Apart L) (f : Pl → Bool) : Apart (L.filter f) := by
  unfold Apart at *
  exact h.sublist ((List.filter_sublist).map sp)
theorem HoldsM.del {D : DataW Unit} {L : List Pl} (h : HoldsM D L) (f : Pl → Bool) (q : Pl) (hq : q ∈ L) (hf : ∀ p ∈ L, f p = false ↔ p = q) : HoldsM (D.del (kl (sp q))) (L.filter f) := by
  refine ⟨h.isMap.del _, apart_filter h.apart f, fun p hp => h.fits p (List.mem_filter.1 hp).1, ?_, ?_⟩
  · intro p hp z
    obtain ⟨hp, hpf⟩ := List.mem_filter.1 hp
    have hne : p ≠ q := fun e => by rw [(hf p hp).2 e] at hpf; cases hpf
    have hsp : sp p ≠ sp q := fun e => hne (by
      have ha := h.apart
      unfold Apart at ha
      exact inj_on ha hp hq e)
    rw [atKey_del_other (kl_ne (h.fits p hp) (h.fits q hq) hsp)]
    exact h.at_ p hp z
  · intro k hk
    by_cases e : k = kl (sp q)
    · subst e
      rw [has_del_same] at hk
      cases hk
    · rw [has_del_other e] at hk
      obtain ⟨p, hp, hpe⟩ := h.only k hk
      refine ⟨p, List.mem_filter.2 ⟨hp, ?_⟩, hpe⟩
      cases hfp : f p with
      | true => rfl
      | false =>
        rw [(hf p hp).1 hfp] at hpe
        exact absurd hpe e
end Go.Proofs.YtppjbmmeacmoiaaDoor.plc
namespace Go.Proofs.YtppjbmmeacmoiaaDoor.plc
open Go.RowKit Go.Joins Go.Sort
open Go.Proofs.YtppjbmmeacmoiaaDoor.base Go.Proofs.YtppjbmmeacmoiaaDoor.blk Go.Proofs.YtppjbmmeacmoiaaDoor.aid
open Go.Proofs.YtppjbmmeacmoiaaDoor.ord
open Go.Proofs.YtppjbmmeacmoiaaDoor.row (Rd Own OwnV)
open Go.Proofs.YtppjbmmeacmoiaaDoor.rwPlace (cs el)
set_option linter.unusedVariables false
set_option linter.unusedSimpArgs false

/-- the first that has the key -/
def findP (l : List Pl) (k : ByteArray) : Option Pl := l.find? (fun p => p.1.toList == k.toList)
def zeroP : Pl := (⟨#[]⟩, ⟨#[]⟩, 0, 0, 0)
/-- what PlacesFind answers -/
def findA (l : List Pl) (k : ByteArray) : Pl × Int :=
  if 400 < l.length ∨ 20000 < k.size then (zeroP, 2) else if placesB l = false then (zeroP, 1) else match findP l k with | none => (zeroP, 8) | some p => (p, 0)
def outV (r : Pl × Int) : Value := .agg #[.string r.1.1, .string r.1.2.1, .int .i64 r.1.2.2.1, .int .i64 r.1.2.2.2.1, .int .i64 r.1.2.2.2.2, .int .i64 r.2]
theorem below5 {w w1 : World} {g : Nat} (hb : Below w.heap.size w w1) (hg : w.heap.size ≤ g) (x0 x1 x2 x3 x4 : Value) : Below w.heap.size w (((((w1.setCell ⟨g, 0, none⟩ x0).setCell ⟨g, 1, none⟩ x1).setCell ⟨g, 2, none⟩ x2).setCell ⟨g, 3, none⟩ x3).setCell ⟨g, 4, none⟩ x4) :=
  ((((hb.setCell (p := ⟨g, 0, none⟩) hg x0).setCell (p := ⟨g, 1, none⟩) hg x1).setCell (p := ⟨g, 2, none⟩) hg x2).setCell (p := ⟨g, 3, none⟩) hg x3).setCell (p := ⟨g, 4, none⟩) hg x4
theorem below6 {w w1 : World} {g : Nat} (hb : Below w.heap.size w w1) (hg : w.heap.size ≤ g) (x0 x1 x2 x3 x4 x5 : Value) : Below w.heap.size w ((((((w1.setCell ⟨g, 0, none⟩ x0).setCell ⟨g, 1, none⟩ x1).setCell ⟨g, 2, none⟩ x2).setCell ⟨g, 3, none⟩ x3).setCell ⟨g, 4, none⟩ x4).setCell ⟨g, 5, none⟩ x5) :=
  (below5 hb hg x0 x1 x2 x3 x4).setCell (p := ⟨g, 5, none⟩) hg x5
theorem cel6 {w : World} {g : Nat} {a b c d e f : Value} {t : TypeId} {z : Nat × Nat} (h : w.heap[g]? = some (.cells #[a, b, c, d, e, f] t z)) : w.cell? ⟨g, 0, none⟩ = some a ∧ w.cell? ⟨g, 1, none⟩ = some b ∧ w.cell? ⟨g, 2, none⟩ = some c ∧ w.cell? ⟨g, 3, none⟩ = some d ∧ w.cell? ⟨g, 4, none⟩ = some e ∧ w.cell? ⟨g, 5, none⟩ = some f := by
  simp [World.cell?, h]
def zeroO : Obj := .cells #[.string ⟨#[]⟩, .string ⟨#[]⟩, .int .i64 0, .int .i64 0, .int .i64 0] 33
def FdPost (w : World) (l : List Pl) (k : ByteArray) (e : Ending) (w' : World) : Prop :=
  ((∃ x0 x1 x2 x3 x4, findP l k = some (x0, x1, x2, x3, x4) ∧ e = .returned (.tuple #[.agg #[.string x0, .string x1, .int .i64 x2, .int .i64 x3, .int .i64 x4], .bool true])) ∨
   (findP l k = none ∧ e = .returned (.tuple #[.agg #[.string ⟨#[]⟩, .string ⟨#[]⟩, .int .i64 0, .int .i64 0, .int .i64 0], .bool false]))) ∧ Below w.heap.size w w'
end Go.Proofs.YtppjbmmeacmoiaaDoor.plc
namespace Go.Proofs.YtppjbmmeacmoiaaDoor.plc
open Go.RowKit Go.Joins Go.Sort Go.Maps
open Go.Proofs.YtppjbmmeacmoiaaDoor.base Go.Proofs.YtppjbmmeacmoiaaDoor.blk Go.Proofs.YtppjbmmeacmoiaaDoor.aid
open Go.Proofs.YtppjbmmeacmoiaaDoor.row (Rd Own OwnV appSem app_fold)
open Go.Proofs.YtppjbmmeacmoiaaDoor.rwPlace (cs el)
set_option linter.unusedVariables false
set_option linter.unusedSimpArgs false

def updSem (t : TypeId) (m k v : Value) : Sem Unit := Instr.mapUpdate t m k v
theorem upd_fold (t : TypeId) (m k v : Value) : Instr.mapUpdate t m k v = updSem t m k v := rfl
attribute [local go_sem ↓] upd_fold
theorem zeroV (w : World) : (zeroValue 33).run Tryd.prog w = .ok (.agg #[.string ⟨#[]⟩, .string ⟨#[]⟩, .int .i64 0, .int .i64 0, .int .i64 0]) w := by kernel_rfl
theorem zeroR_is : R (.agg #[.string ⟨#[]⟩, .string ⟨#[]⟩, .int .i64 0, .int .i64 0, .int .i64 0]) = some (dat zeroP, []) := rfl
/-- a place is looked for in the map: is it there? -/
theorem wpList_lookup_pl (w : World) {ops : Array Oper} {rest : List Oper} {o : Oper} {a : Act} {Q : Exit → Act → World → Prop} (hg : o.guard = none) (m x : Operand) (hop : o.op = Op.lookup 35 m x true)
    (b n : Nat) (D : DataW Unit) (hm : a.eval m = .map (some b)) (hown : w.ownsMap Tryd.prog 43 R b n D) (L : List Pl) (hM : HoldsM D L) (s0 s1 : ByteArray) (h0 : s0.size ≤ 1048576) (h1 : s1.size ≤ 1048576) (hx : a.eval x = .agg #[.string s0, .string s1]) (r : Bool) (hr : hasS L (s0, s1) = r)
    (hK : ∀ (q0 q1 : ByteArray) (q2 q3 q4 : Int), wpList Tryd.prog ops Q rest (a.put o.dst (.tuple #[.agg #[.string q0, .string q1, .int .i64 q2, .int .i64 q3, .int .i64 q4], .bool r])) w) :
    wpList Tryd.prog ops Q (o :: rest) a w :=
  wpList_lookup_own_ok w hg m x 35 hop 43 33 lawK Tryd.underlying35 R (zeroV w) (dat zeroP) [] zeroR_is b n D hm hown (keyV (s0, s1)) (kl (s0, s1)) hx (keyOf_spot _ (fit_max h0) (fit_max h1)) (fun v ps hv => by
    obtain ⟨⟨q0, q1, q2, q3, q4⟩, rfl, _⟩ := R_inv hv
    rw [hM.hasS (s0, s1) h0 h1, hr]
    exact hK q0 q1 q2 q3 q4)
theorem rd_owns {w : World} {base T n size c : Nat} {a : Option Addr} {xs : List Value} (h : w.ownsRow base T size (.slice a n c) n xs) : Rd w a xs := by
  rcases h.2 with ⟨h1, h2⟩ | ⟨g, cap, cur, h1, _⟩
  · have hl := h.1
    rw [h2, Nat.zero_mul] at hl
    rw [List.eq_nil_of_length_eq_zero hl]
    exact Rd.nil _ _
  · simp at h1
    obtain ⟨rfl, _⟩ := h1
    exact (Own.owns h).rd
theorem rd_grew {w w' : World} {a : Option Addr} {xs : List Value} {r : Option Nat} (h : Rd w a xs) (hg : w.grownBy w' r) (hr : ∀ b o s, a = some ⟨b, o, s⟩ → some b ≠ r) : Rd w' a xs :=
  h.block (fun b off e hl => hg.block b hl (hr b off none e))
/-- what holds on the way -/
structure Bs (w : World) (B : Nat) (a1 : Option Addr) (all : List Pl) (k n : Nat) (D : DataW Unit) (wr : World) : Prop where
  own : wr.ownsMap Tryd.prog 43 R B n D
  holds : HoldsM D (firsts (all.take k))
  few : n ≤ k
  rd : Rd wr a1 (cs all)
  below : Below w.heap.size w wr
theorem Bs.next {w wr w1 : World} {B k n : Nat} {a1 : Option Addr} {all : List Pl} {D : DataW Unit} (h : Bs w B a1 all k n D wr) (hb : Below wr.heap.size wr w1) : Bs w B a1 all k n D w1 :=
  ⟨h.own.kept (below_grew hb none) (by simp), h.holds, h.few, h.rd.below hb, below_trans h.below hb⟩
theorem Bs.alloc {w wr : World} {B k n : Nat} {a1 : Option Addr} {all : List Pl} {D : DataW Unit} (h : Bs w B a1 all k n D wr) (o : Obj) : Bs w B a1 all k n D (wr.alloc o) := h.next (below_alloc1 wr o)
theorem firsts_take {all : List Pl} {k : Nat} {x : Pl} (hx : all[k]? = some x) : firsts (all.take (k + 1)) = fst1 (firsts (all.take k)) x := by
  rw [List.take_add_one, hx]
  exact firsts_snoc _ _
set_option maxRecDepth 100000 in
set_option maxHeartbeats 4000000 in
theorem bySpot_any (a0 : Option Addr) (c0 : Nat) (ls : List (Option Addr × Nat × List Pl)) (w : World) (hr : Rd w a0 (ls.map sv)) (hls : ∀ x ∈ ls, Rd w x.1 (cs x.2.2)) (hn : ls.length ≤ 100) (ht : (allP ls).length ≤ 1048576) (hf : Fits (allP ls)) :
    Calls Tryd.prog 14 #[.slice a0 ls.length c0] w fun e w' => ∃ b n D, e = .returned (.map (some b)) ∧ w'.ownsMap Tryd.prog 43 R b n D ∧ HoldsM D (firsts (allP ls)) ∧ n ≤ (allP ls).length ∧ w.heap.size ≤ b ∧ Below w.heap.size w w' := by
  have hmm := @run_makeMap Tryd.prog
  have HC := mkHid (concat_any a0 c0 ls (w.alloc (.map #[] 0)) (hr.alloc _) (fun x hx => (hls x hx).alloc _) hn ht)
  have B0 := mkHid (below_alloc1 w (.map #[] 0))
  have M0 := mkHid (World.ownsMap_made w Tryd.prog 43 R)
  have HF := mkHid hf
  clear hr hls hf
  generalize allP ls = all at *
  go_enter Tryd.func14, Tryd.ntmps14
  go_wp2_with fail
  refine HC.out.mono ?_
  rintro e w1 ⟨v, rfl, hown, hb⟩
  obtain ⟨a1, c1, rfl⟩ := slice_of hown
  have hti : (all.length : Int) ≤ 1048576 := by omega
  have hoff : ∀ b o s, a1 = some ⟨b, o, s⟩ → some b ≠ some w.heap.size := by
    intro b o s e he
    have h1 := (hown.lt b (by rw [e]; rfl)).1
    simp at he h1
    omega
  have S0 : Hid (Bs w w.heap.size a1 all 0 0 (.map []) w1) := mkHid ⟨M0.out.kept (below_grew hb none) (by simp), HoldsM.nil, Nat.le_refl _, rd_owns hown, below_trans B0.out hb⟩
  have HOff := mkHid hoff
  clear hown hb M0 B0 HC hoff
  go_wp2_with fail
  go_loopw [5, 6, 7, 12] (fun p5 p6 p7 i wr => ∃ (k n : Nat) (D : DataW Unit), k ≤ all.length ∧ i = .int .i64 k ∧ Hid (Bs w w.heap.size a1 all k n D wr))
    (fun _ _ _ i _ => all.length - (intOf i).toNat)
  case atStart => exact ⟨0, 0, .map [], Nat.zero_le _, rfl, S0⟩
  case round =>
    obtain ⟨k, n, D, hk, rfl, S⟩ := hrel
    clear S0
    by_cases hlt : k < all.length
    · have hlti : (k : Int) < (all.length : Int) := by omega
      obtain ⟨⟨x0, x1, x2, x3, x4⟩, hx⟩ : ∃ y, all[k]? = some y := ⟨_, List.getElem?_eq_getElem hlt⟩
      obtain ⟨g1, o1, rfl, c0, c1, c2, c3, c4, l1⟩ := el S.out.rd hx
      have hft := firsts_take hx
      have hBlt := S.out.own.lt
      have hfx := HF.out _ (List.mem_of_getElem? hx)
      simp only at c0 c1 c2 c3 c4 hfx
      have S1 := mkHid (S.out.alloc (.cells #[.string x0, .string x1, .int .i64 x2, .int .i64 x3, .int .i64 x4] 33))
      have b1 := mkHid (blk_new wr (.cells #[.string x0, .string x1, .int .i64 x2, .int .i64 x3, .int .i64 x4] 33) wr.heap.size rfl)
      have HSp := mkHid (fun wx => spot_any x0 x1 x2 x3 x4 wx)
      cases hh : hasS (firsts (all.take k)) (x0, x1) with
      | true =>
        have E := mkHid (show firsts (all.take (k + 1)) = firsts (all.take k) by rw [hft]; unfold fst1; rw [if_pos hh])
        clear hft hx S
        go_wp2_with fail
        refine (HSp.out _).mono ?_
        rintro e w2 ⟨rfl, rfl⟩
        have S2 := mkHid ((S1.out.alloc (.cells #[.string x0, .string x1, .int .i64 x2, .int .i64 x3, .int .i64 x4] 33)).alloc (.cells #[.string x0, .string x1] 43))
        have HH := mkHid hh
        clear S1 b1 HSp c0 c1 c2 c3 c4 hh
        generalize ((wr.alloc (.cells #[.string x0, .string x1, .int .i64 x2, .int .i64 x3, .int .i64 x4] 33)).alloc (.cells #[.string x0, .string x1, .int .i64 x2, .int .i64 x3, .int .i64 x4] 33)).alloc (.cells #[.string x0, .string x1] 43) = w2 at *
        go_wp2_with (first | (at_lookup; refine wpList_lookup_pl _ rfl _ _ rfl w.heap.size n D rfl S2.out.own _ S2.out.holds x0 x1 hfx.1 hfx.2 rfl true HH.out ?_; intro q0 q1 q2 q3 q4) | fail)
        have S3 : Hid (Bs w w.heap.size (some ⟨g1, o1, none⟩) all (k + 1) n D (w2.alloc (.cells #[.string q0, .string q1, .int .i64 q2, .int .i64 q3, .int .i64 q4] 33))) := mkHid (by
          have h := S2.out.alloc (.cells #[.string q0, .string q1, .int .i64 q2, .int .i64 q3, .int .i64 q4] 33)
          exact ⟨h.own, by rw [E.out]; exact h.holds, Nat.le_succ_of_le h.few, h.rd, h.below⟩)
        go_roundw
        case rel => exact ⟨k + 1, n, D, by omega, by go_num, S3⟩
        case measure => simp [intOf]; omega
      | false =>
        have hno := (hasS_not _ _).1 hh
        have E := mkHid (show firsts (all.take (k + 1)) = firsts (all.take k) ++ [(x0, x1, x2, x3, x4)] by rw [hft]; exact fst1_no hno)
        have HNo := mkHid hno
        have hkn : k < maxLen := by unfold maxLen; omega
        clear hft hx S hno
        go_wp2_with fail
        refine (HSp.out _).mono ?_
        rintro e w2 ⟨rfl, rfl⟩
        have S2 := mkHid ((S1.out.alloc (.cells #[.string x0, .string x1, .int .i64 x2, .int .i64 x3, .int .i64 x4] 33)).alloc (.cells #[.string x0, .string x1] 43))
        have b2 := mkHid (blk_old (blk_old b1.out (.cells #[.string x0, .string x1, .int .i64 x2, .int .i64 x3, .int .i64 x4] 33)) (.cells #[.string x0, .string x1] 43))
        have HH := mkHid hh
        clear S1 b1 c0 c1 c2 c3 c4 hh
        generalize ((wr.alloc (.cells #[.string x0, .string x1, .int .i64 x2, .int .i64 x3, .int .i64 x4] 33)).alloc (.cells #[.string x0, .string x1, .int .i64 x2, .int .i64 x3, .int .i64 x4] 33)).alloc (.cells #[.string x0, .string x1] 43) = w2 at *
        go_wp2_with (first | (at_lookup; refine wpList_lookup_pl _ rfl _ _ rfl w.heap.size n D rfl S2.out.own _ S2.out.holds x0 x1 hfx.1 hfx.2 rfl false HH.out ?_; intro q0 q1 q2 q3 q4) | fail)
        have S3 := mkHid (S2.out.alloc (.cells #[.string q0, .string q1, .int .i64 q2, .int .i64 q3, .int .i64 q4] 33))
        have b3 := mkHid (blk_old b2.out (.cells #[.string q0, .string q1, .int .i64 q2, .int .i64 q3, .int .i64 q4] 33))
        clear S2 b2
        generalize w2.alloc (.cells #[.string q0, .string q1, .int .i64 q2, .int .i64 q3, .int .i64 q4] 33) = w3 at *
        obtain ⟨e0, e1, e2, e3, e4⟩ := cel5 b3.out
        have HSb := mkHid (fun wx => (HSp.out wx).mono (fun e w' h => And.intro h.1 (show Below wx.heap.size wx w' by rw [h.2]; exact rwPlace.below2 _ _ _)))
        go_region_held3 (fun w' => w'.cell? ⟨wr.heap.size, 0, none⟩ = some (.string x0) ∧ w'.cell? ⟨wr.heap.size, 1, none⟩ = some (.string x1) ∧ w'.cell? ⟨wr.heap.size, 2, none⟩ = some (.int .i64 x2) ∧ w'.cell? ⟨wr.heap.size, 3, none⟩ = some (.int .i64 x3) ∧ w'.cell? ⟨wr.heap.size, 4, none⟩ = some (.int .i64 x4)) (go_keep)
          ((go_at_call 27; refine Calls.mono (HSb.out _) ?_; rintro e w4 ⟨rfl, hw4⟩; have r4 := re (w := w3) hw4 rfl rfl rfl rfl; have S4 := mkHid (S3.out.next r4); have b4 := mkHid (blk_below b3.out r4); clear hw4 r4; obtain ⟨f0, f1, f2, f3, f4⟩ := cel5 b4.out; obtain ⟨w5, hrun, hown5, hg5⟩ := S4.out.own.update lawK Tryd.underlying35 (Nat.lt_of_le_of_lt S4.out.few hkn) (keyOf_spot (x0, x1) (fit_max hfx.1) (fit_max hfx.2)) (R_mk (x0, x1, x2, x3, x4)); have S5 := mkHid (And.intro hown5 hg5); have b5 := mkHid ((hg5.block wr.heap.size (Array.getElem?_eq_some_iff.1 b4.out).1 (by simp; omega)).trans b4.out); obtain ⟨i0, i1, i2, i3, i4⟩ := cel5 b5.out; clear hown5 hg5; unfold keyV plV at hrun; simp only at hrun; rw [upd_fold] at hrun))
        have S6 : Hid (Bs w w.heap.size (some ⟨g1, o1, none⟩) all (k + 1) (n + 1) (D.put (kl (x0, x1)) (dat (x0, x1, x2, x3, x4))) w5) := mkHid ⟨S5.out.1, by rw [E.out]; exact S4.out.holds.put (x0, x1, x2, x3, x4) HNo.out hfx.1 hfx.2, by have := S4.out.few; omega, rd_grew S4.out.rd S5.out.2 HOff.out, S4.out.below.grown S5.out.2 S4.out.below.size (fun j hj => by cases hj; exact Nat.le_refl _)⟩
        clear S3 S4 S5 b3 b4 b5 hrun HSb HSp E HNo HH
        go_wp2
        go_roundw
        case rel => exact ⟨k + 1, n + 1, _, by omega, by go_num, S6⟩
        case measure => simp [intOf]; omega
    · obtain rfl : k = all.length := by omega
      have S4 := S.out.holds
      rw [List.take_of_length_le (Nat.le_refl _)] at S4
      have S5 := mkHid S4
      clear S4
      go_wp2
      go_ret
      exact ⟨_, n, D, rfl, S.out.own, S5.out, S.out.few, Nat.le_refl _, S.out.below⟩
end Go.Proofs.YtppjbmmeacmoiaaDoor.plc
namespace Go.Proofs.YtppjbmmeacmoiaaDoor.plc
open Go.RowKit Go.Joins Go.Sort
open Go.Proofs.YtppjbmmeacmoiaaDoor.base Go.Proofs.YtppjbmmeacmoiaaDoor.blk Go.Proofs.YtppjbmmeacmoiaaDoor.aid
open Go.Proofs.YtppjbmmeacmoiaaDoor.ord
open Go.Proofs.YtppjbmmeacmoiaaDoor.obj (objB objB_small)
open Go.Proofs.YtppjbmmeacmoiaaDoor.row (Rd Own OwnV)
open Go.Proofs.YtppjbmmeacmoiaaDoor.rwPlace (cs el)
set_option linter.unusedVariables false

theorem cmp_grown (a b : Pl) (w : World) (r : Int) (hr : cmpP a b = r) :
    Calls Tryd.prog 25 #[.agg #[.string a.1, .string a.2.1, .int .i64 a.2.2.1, .int .i64 a.2.2.2.1, .int .i64 a.2.2.2.2], .agg #[.string b.1, .string b.2.1, .int .i64 b.2.2.1, .int .i64 b.2.2.2.1, .int .i64 b.2.2.2.2]] w fun e w' => e = .returned (.int .i64 r) ∧ ∃ q os', w' = grow (w.drewN q) os' :=
  (comparePlaces_any a b w).mono (fun e w' h => ⟨by rw [h.1, hr], by rw [h.2]; exact alloc2_grown w _ _⟩)

end Go.Proofs.YtppjbmmeacmoiaaDoor.plc
namespace Go.Proofs.YtppjbmmeacmoiaaDoor.plc
open Go.RowKit Go.Joins Go.Sort
open Go.Proofs.YtppjbmmeacmoiaaDoor.base Go.Proofs.YtppjbmmeacmoiaaDoor.blk Go.Proofs.YtppjbmmeacmoiaaDoor.aid
open Go.Proofs.YtppjbmmeacmoiaaDoor.ord
open Go.Proofs.YtppjbmmeacmoiaaDoor.row (Rd Own OwnV)
open Go.Proofs.YtppjbmmeacmoiaaDoor.rwPlace (cs el)
set_option linter.unusedVariables false
set_option linter.unusedSimpArgs false

set_option maxRecDepth 100000 in
set_option maxHeartbeats 1000000 in
theorem copyPlace_any (x0 x1 : ByteArray) (x2 x3 x4 : Int) (w : World) (h0 : x0.size ≤ 1048576) (h1 : x1.size ≤ 1048576) :
    Calls Tryd.prog 23 #[.agg #[.string x0, .string x1, .int .i64 x2, .int .i64 x3, .int .i64 x4]] w fun e w' => e = .returned (.agg #[.string x0, .string x1, .int .i64 x2, .int .i64 x3, .int .i64 x4]) ∧ Below w.heap.size w w' := by
  have hC0 := mkHid (fun wx => clone.clone_any x0 wx h0)
  have hC1 := mkHid (fun wx => clone.clone_any x1 wx h1)
  have b1 := mkHid (blk_old (blk_new w (.cells #[.string x0, .string x1, .int .i64 x2, .int .i64 x3, .int .i64 x4] 33) w.heap.size rfl) zeroO)
  have b2 := mkHid (blk_new (w.alloc (.cells #[.string x0, .string x1, .int .i64 x2, .int .i64 x3, .int .i64 x4] 33)) zeroO (w.heap.size + 1) (by simp))
  have HB0 := mkHid (rwPlace.below2 w (.cells #[.string x0, .string x1, .int .i64 x2, .int .i64 x3, .int .i64 x4] 33) zeroO)
  unfold zeroO at b1 b2 HB0
  go_enter Tryd.func23, Tryd.ntmps23
  go_wp2_with fail
  refine (hC0.out _).mono ?_
  rintro e w1 ⟨rfl, hb⟩
  have d1 := mkHid (blk_below b1.out hb)
  have d2 := mkHid (blk_below b2.out hb)
  have HB1 := mkHid (below_trans HB0.out hb)
  clear hb b1 b2 HB0 hC0
  obtain ⟨e0, e1, e2, e3, e4⟩ := cel5 d1.out
  have uf := unfrozen d1.out
  have D1 := mkHid (show (w1.setCell ⟨w.heap.size, 0, none⟩ (.string x0)).heap[w.heap.size]? = some (.cells #[.string x0, .string x1, .int .i64 x2, .int .i64 x3, .int .i64 x4] 33) by
    have h := heap_setCell_same w1 w.heap.size 0 _ _ (.string x0) d1.out
    simpa using h)
  have D2 := mkHid (show (w1.setCell ⟨w.heap.size, 0, none⟩ (.string x0)).heap[w.heap.size + 1]? = some (.cells #[.string ⟨#[]⟩, .string ⟨#[]⟩, .int .i64 0, .int .i64 0, .int .i64 0] 33) from blk_set d2.out _ _ (by simp))
  have HB2 := mkHid (HB1.out.setCell (p := ⟨w.heap.size, 0, none⟩) (Nat.le_refl _) (.string x0))
  clear d2 HB1
  go_wp2_with fail
  refine (hC1.out _).mono ?_
  rintro e w2 ⟨rfl, hb⟩
  clear e0 e1 e2 e3 e4 uf d1
  have d1 := mkHid (blk_below D1.out hb)
  have d2 := mkHid (blk_below D2.out hb)
  have HB3 := mkHid (below_trans HB2.out hb)
  clear hb D1 D2 HB2 hC1
  obtain ⟨e0, e1, e2, e3, e4⟩ := cel5 d1.out
  have uf := unfrozen d1.out
  obtain ⟨z0, z1, z2, z3, z4⟩ := cel5 d2.out
  have uf2 := unfrozen d2.out
  have HB4 := mkHid (HB3.out.setCell (p := ⟨w.heap.size, 1, none⟩) (Nat.le_refl _) (.string x1))
  have HB := mkHid (below5 HB4.out (g := w.heap.size + 1) (by omega) (.string x0) (.string x1) (.int .i64 x2) (.int .i64 x3) (.int .i64 x4))
  clear HB3 HB4 d1 d2
  go_wp2
  refine bodyPost_ret (v := .agg #[.string x0, .string x1, .int .i64 x2, .int .i64 x3, .int .i64 x4]) ?_ rfl ?_
  rotate_left
  · exact ⟨rfl, HB.out⟩
  · simp [results, Tryd.results23, go_sem, z0, z1, z2, z3, z4]

abbrev enc (p : Pl) : List Value := [.string p.1, .string p.2.1, .int .i64 p.2.2.1, .int .i64 p.2.2.2.1, .int .i64 p.2.2.2.2]
theorem enc_len (p : Pl) : (enc p).length = 5 := rfl
theorem enc_one (p : Pl) : ∀ v ∈ enc p, v.oneCell' = true := by
  intro v hv
  simp [enc] at hv
  rcases hv with rfl | rfl | rfl | rfl | rfl <;> rfl
theorem idx_is (l : List Pl) (k : ByteArray) : (findP l k = none ∧ Lib.idxBy (fun _ (y : Pl) => y.1.toList == k.toList) (l.take l.length) default = -1) ∨
    ∃ (i : Nat) (p : Pl), findP l k = some p ∧ l[i]? = some p ∧ Lib.idxBy (fun _ (y : Pl) => y.1.toList == k.toList) (l.take l.length) default = (i : Int) := by
  cases hf : findP l k with
  | none =>
    refine .inl ⟨rfl, Lib.idxBy_miss _ _ _ _ (fun j hj => ?_)⟩
    unfold findP at hf
    rw [List.find?_eq_none] at hf
    have := hf l[j] (List.getElem_mem hj)
    rw [getElem!_pos l j hj]
    simpa using this
  | some p =>
    unfold findP at hf
    rw [List.find?_eq_some_iff_getElem] at hf
    obtain ⟨hp, i, hi, he, hn⟩ := hf
    refine .inr ⟨i, p, rfl, by rw [List.getElem?_eq_getElem hi, he], Lib.idxBy_hit _ _ _ _ _ hi (Nat.le_refl _) (by rw [getElem!_pos l i hi, he]; exact hp) (fun j hj => ?_)⟩
    have := hn j hj
    rw [getElem!_pos l j (by omega)]
    simpa using this
end Go.Proofs.YtppjbmmeacmoiaaDoor.plc
namespace Go.Proofs.YtppjbmmeacmoiaaDoor.plc
open Go.RowKit Go.Joins Go.Sort
open Go.Proofs.YtppjbmmeacmoiaaDoor.base Go.Proofs.YtppjbmmeacmoiaaDoor.blk Go.Proofs.YtppjbmmeacmoiaaDoor.aid
open Go.Proofs.YtppjbmmeacmoiaaDoor.row (Rd Own OwnV appSem app_fold)
open Go.Proofs.YtppjbmmeacmoiaaDoor.rwPlace (cs el)
set_option linter.unusedVariables false
set_option linter.unusedSimpArgs false

theorem lt_is (x y : Pl) : ltOf cmpP x y = lessP x y := by
  unfold ltOf
  cases h : lessP x y with
  | true => exact decide_eq_true ((cmpP_neg x y).2 h)
  | false => exact decide_eq_false (by have := (cmpP_nonneg x y).2 h; omega)
theorem swo : SWO (ltOf cmpP) where
  irrefl x := by rw [lt_is]; exact lessS_irr _
  trans x y z h1 h2 := by rw [lt_is] at *; exact lessS_trans h1 h2
  ntrans x y z h1 h2 := by
    rw [lt_is] at *
    unfold lessP at *
    by_cases e : sp x = sp y
    · rw [e]; exact h2
    · have h3 := lessS_total h1 e
      cases h : lessS (sp x) (sp z) with
      | false => rfl
      | true => rw [lessS_trans h3 h] at h2; cases h2
theorem flat_is (d : Array Pl) : flatK enc 5 d = (cs d.toList).toArray := by
  refine ext_get! (by simp [rwPlace.cs_len]; omega) fun t ht => ?_
  have ht' : t < d.size * 5 := by simpa using ht
  rw [get_flatK _ _ _ t ht']
  have hi : t / 5 < d.size := by omega
  have hx : d.toList[t / 5]? = some d[t / 5] := by simp [hi]
  obtain ⟨h0, h1, h2, h3, h4⟩ := rwPlace.cs_at _ _ _ hx
  rw [getElem!_pos d (t / 5) hi]
  have hlt : t < (cs d.toList).toArray.size := by simp [rwPlace.cs_len]; omega
  rw [getElem!_pos _ t hlt]
  generalize d[t / 5] = x at *
  have key : ∀ v, (cs d.toList)[t]? = some v → (cs d.toList).toArray[t]'hlt = v := fun v hv => by
    have := (List.getElem?_eq_some_iff.1 hv).2
    simpa using this
  rcases (show t % 5 = 0 ∨ t % 5 = 1 ∨ t % 5 = 2 ∨ t % 5 = 3 ∨ t % 5 = 4 by omega) with h | h | h | h | h
  · have e : t / 5 * 5 = t := by omega
    rw [e] at h0
    rw [key _ h0, h]; rfl
  · have e : t / 5 * 5 + 1 = t := by omega
    rw [e] at h1
    rw [key _ h1, h]; rfl
  · have e : t / 5 * 5 + 2 = t := by omega
    rw [e] at h2
    rw [key _ h2, h]; rfl
  · have e : t / 5 * 5 + 3 = t := by omega
    rw [e] at h3
    rw [key _ h3, h]; rfl
  · have e : t / 5 * 5 + 4 = t := by omega
    rw [e] at h4
    rw [key _ h4, h]; rfl
theorem heap_put {w : World} {g n : Nat} {os : Array Obj} {cur : Array Value} {e : TypeId} {fr : Nat × Nat} (d : Array Value) (hb : w.heap[g]? = some (.cells cur e fr)) :
    (grow (putRow id (Sort.ahead w n) g 0 d) os).heap[g]? = some (.cells (putCells id 0 d cur) e fr) := by
  have hg : g < w.heap.size := (Array.getElem?_eq_some_iff.1 hb).1
  rw [heap_grow_old _ _ (by simpa using hg)]
  simp [putRow, mapBlock, Sort.ahead, Array.getElem?_modify, hb, onCells]
theorem grew_put {w : World} {g n : Nat} {os : Array Obj} (d : Array Value) : w.grownBy (grow (putRow id (Sort.ahead w n) g 0 d) os) (some g) := by
  refine ⟨rfl, rfl, rfl, by simp, fun k hk hne => ?_⟩
  rw [heap_grow_old _ _ (by simpa using hk)]
  have : g ≠ k := fun e => hne (by rw [e])
  simp [putRow, mapBlock, Sort.ahead, Array.getElem?_modify, this]
theorem take_put (cur : Array Value) (F : List Value) (h : F.length ≤ cur.size) : (putCells id 0 F.toArray cur).toList.take F.length = F := by
  apply List.ext_getElem?
  intro j
  by_cases hj : j < F.length
  · rw [List.getElem?_take_of_lt hj, Array.getElem?_toList]
    simp [putCells, hj, show j < cur.size by omega]
  · rw [List.getElem?_take_eq_none (by omega), List.getElem?_eq_none (by omega)]
theorem sort_own (w : World) (base : Nat) (v : Value) (r : List Pl) (hn : r.length ≤ 1048576) (hown : w.ownsRow base 33 5 v r.length (cs r)) :
    Calls Tryd.prog 24 #[v, .func (.func 25) #[] #[]] w fun e w' => e = .returned (.tuple #[]) ∧ ∃ d : List Pl, d.Perm r ∧ d.Pairwise (fun a b => lessP b a = false) ∧ w'.ownsRow base 33 5 v r.length (cs d) ∧ w.grownBy w' v.ownBlock := by
  by_cases h0 : r = []
  · subst h0
    obtain ⟨a, c, rfl⟩ := slice_of hown
    refine (AnyF.slices_SortFunc_none { Tryd.sortPl with } a c (.func (.func 25) #[] #[]) w).mono ?_
    rintro e w' ⟨rfl, rfl⟩
    exact ⟨rfl, [], List.Perm.refl _, .nil, hown, grew_refl _ _⟩
  · have hpos : 0 < r.length := by cases r with | nil => exact absurd rfl h0 | cons _ _ => simp
    obtain ⟨hlen, h2⟩ := hown
    rcases h2 with ⟨_, h2⟩ | ⟨g, cap, cur, rfl, hbase, hb, h1, h2, h3, h4⟩
    · omega
    · have hg : g < w.heap.size := (Array.getElem?_eq_some_iff.1 hb).1
      have hown : w.ownsRow base 33 5 (.slice (some ⟨g, 0, none⟩) r.length cap) r.length (cs r) := ⟨hlen, .inr ⟨g, cap, cur, rfl, hbase, hb, h1, h2, h3, h4⟩⟩
      have hO : Own 33 w g (cs r) := Own.owns hown
      have eg : ∀ args w, (callFunc 25 args).run Tryd.prog w = .ok (.enter 25 args) w := enters_of Tryd.func25 (by kernel_rfl) rfl
      have hH : HoldsK enc 5 w g 0 r.toArray := by
        unfold HoldsK
        rw [flat_is]
        intro j hj
        have hj' : j < (cs r).length := by simpa using hj
        refine ⟨?_, by rw [Nat.zero_add]; exact hO.free j⟩
        rw [Nat.zero_add, getElem!_pos _ j (by simpa using hj)]
        exact hO.cell (by simp [hj'])
      have h := AnyQ.slices_SortFunc Tryd.sortPl 5 Tryd.isAgg33 Tryd.sizeOf33 enc enc_len enc_one cmpP swo 25 #[] g 0 cap r.toArray w eg (fun m os dk hk x y => cmp_grown x y _ _ rfl) hH hg (by simp; omega)
      have hsz : r.toArray.size = r.length := by simp
      rw [hsz] at h
      refine h.mono ?_
      rintro e w' ⟨rfl, d', m, os, hp, hs, rfl⟩
      have hd : d'.size = r.length := by have := hp.1; simpa using this
      have hperm : d'.toList.Perm r := by
        have h5 := hp.2.2
        rw [← hd] at h5
        have e1 : d'.extract 0 d'.size = d' := by simp
        rw [e1] at h5
        have e2 : r.toArray.extract 0 d'.size = r.toArray := by rw [hd]; simp
        rw [e2] at h5
        simpa using h5
      refine ⟨rfl, d'.toList, hperm, ?_, ?_, ?_⟩
      · rw [List.pairwise_iff_getElem]
        intro i j hi hj hij
        have h6 := hs i j (Nat.zero_le _) hij (by simp at hj; omega)
        rw [lt_is] at h6
        rw [getElem!_pos d' i (by simpa using hi), getElem!_pos d' j (by simpa using hj)] at h6
        simpa using h6
      · unfold sortWorldK putRowK
        rw [flat_is]
        have hl5 : (cs d'.toList).length = r.length * 5 := by rw [rwPlace.cs_len]; simp [hd]; omega
        refine ⟨hl5, .inr ⟨g, cap, _, rfl, hbase, heap_put _ hb, h1, h2, by simp [putCells, h3], ?_⟩⟩
        rw [← hl5]
        exact take_put cur _ (by rw [hl5, h3]; exact Nat.mul_le_mul_right _ h1)
      · unfold sortWorldK putRowK
        exact grew_put _
end Go.Proofs.YtppjbmmeacmoiaaDoor.plc
namespace Go.Proofs.YtppjbmmeacmoiaaDoor.plc
open Go.RowKit Go.Joins Go.Sort Go.Maps
open Go.Proofs.YtppjbmmeacmoiaaDoor.base Go.Proofs.YtppjbmmeacmoiaaDoor.blk Go.Proofs.YtppjbmmeacmoiaaDoor.aid
open Go.Proofs.YtppjbmmeacmoiaaDoor.row (Rd Own OwnV appSem app_fold)
open Go.Proofs.YtppjbmmeacmoiaaDoor.rwPlace (cs el)
set_option maxRecDepth 100000
set_option linter.unusedVariables false
set_option linter.unusedSimpArgs false
attribute [local go_sem ↓] app_fold

/-- the step of a range over a map of places -/
theorem wpList_next_pl (w : World) {ops : Array Oper} {rest : List Oper} {o : Oper} {a : Act} {Q : Exit → Act → World → Prop} (hg : o.guard = none) (it : Operand) (hop : o.op = Op.next it false) (b r n : Nat) (D : DataW Unit) (left : Lit → Bool) (cnt : Nat)
    (hit : a.eval it = .pointer (some ⟨r, 0, none⟩)) (h : w.ranges Tryd.prog 43 R b r n D left cnt) (L : List Pl) (hM : HoldsM D L)
    (hDone : (∀ k, left k = false) → wpList Tryd.prog ops Q rest (a.put o.dst (.tuple #[.bool false])) w)
    (hMore : ∀ (x0 x1 : ByteArray) (x2 x3 x4 : Int) (w' : World) (cnt' : Nat), (x0, x1, x2, x3, x4) ∈ L → left (kl (x0, x1)) = true → w'.ranges Tryd.prog 43 R b r n D (fun z => left z && !z.sameKey (kl (x0, x1))) cnt' → cnt' < cnt →
      w.grownBy w' (some r) → w'.heap.size = w.heap.size → (Instr.entry (.pointer (some ⟨r, 0, none⟩))).run Tryd.prog w' = .ok (.tuple #[.agg #[.string x0, .string x1], .agg #[.string x0, .string x1, .int .i64 x2, .int .i64 x3, .int .i64 x4]]) w' →
      wpList Tryd.prog ops Q rest (a.put o.dst (.tuple #[.bool true, .agg #[.string x0, .string x1], .agg #[.string x0, .string x1, .int .i64 x2, .int .i64 x3, .int .i64 x4]])) w') :
    wpList Tryd.prog ops Q (o :: rest) a w :=
  wpList_next_ranges w hg it hop 43 lawK R keyV plV (fun key l hk => by obtain ⟨s, hs, _⟩ := keyOf_inv hk; exact ⟨s, hs⟩) (fun v y hv => by obtain ⟨p, hp, _⟩ := R_inv hv; exact ⟨p, hp⟩) b r n D left cnt hit h (fun _ hl => hDone hl)
    (fun x c l y w' cnt' hkey hlk hv hat hrg hlt hgr hsz hen => by
      obtain ⟨s, es, rfl, hs1, hs2⟩ := keyOf_inv hkey
      have ex : x = s := by
        unfold keyV at es
        injection es with es
        simp at es
        exact Prod.ext es.1 es.2
      subst ex
      obtain ⟨p, hp, hpe⟩ := hM.only _ (has_true_of_atKey hat)
      have hf := hM.fits p hp
      have e1 : x = sp p := kl_inj hs1 hs2 (fit_max hf.1) (fit_max hf.2) hpe
      subst e1
      have e2 : dat p = y.1 := (hM.at_ p hp .nil).symm.trans (hat .nil)
      rw [R_mk] at hv
      cases hv
      have e3 := dat_inj e2
      subst e3
      obtain ⟨x0, x1, x2, x3, x4⟩ := p
      exact hMore x0 x1 x2 x3 x4 w' cnt' hp hlk hrg hlt hgr hsz hen)
/-- which have come already -/
structure Col (L : List Pl) (left : Lit → Bool) (acc : List Pl) : Prop where
  mem : ∀ p, p ∈ acc ↔ p ∈ L ∧ left (kl (sp p)) = false
  nodup : acc.Nodup
theorem Col.start {D : DataW Unit} {L : List Pl} (hM : HoldsM D L) : Col L (Maps.has D) [] :=
  ⟨fun p => ⟨fun h => (by cases h), fun h => absurd h.2 (by rw [hM.there h.1]; simp)⟩, .nil⟩
theorem Col.step {D : DataW Unit} {L : List Pl} {left : Lit → Bool} {acc : List Pl} (hM : HoldsM D L) (h : Col L left acc) {x : Pl} (hx : x ∈ L) (hl : left (kl (sp x)) = true) : Col L (fun z => left z && !z.sameKey (kl (sp x))) (acc ++ [x]) := by
  refine ⟨fun p => ?_, ?_⟩
  · rw [List.mem_append, List.mem_singleton, h.mem p]
    constructor
    · rintro (⟨h1, h2⟩ | rfl)
      · exact ⟨h1, by show (left (kl (sp p)) && _) = false; rw [h2]; rfl⟩
      · refine ⟨hx, ?_⟩
        show (left (kl (sp p)) && !(kl (sp p)).sameKey (kl (sp p))) = false
        rw [WideAt.sameKey_self (a := kl (sp p)) (by exact trivial)]
        simp
    · rintro ⟨h1, h2⟩
      have h2 : (left (kl (sp p)) && !(kl (sp p)).sameKey (kl (sp x))) = false := h2
      cases hlp : left (kl (sp p)) with
      | false => exact .inl ⟨h1, rfl⟩
      | true =>
        rw [hlp] at h2
        have hs : (kl (sp p)).sameKey (kl (sp x)) = true := by
          cases hq : (kl (sp p)).sameKey (kl (sp x)) with
          | true => rfl
          | false => rw [hq] at h2; cases h2
        have e := WideAt.sameKey_eq hs
        have f1 := hM.fits p h1
        have f2 := hM.fits x hx
        exact .inr (inj_on hM.apart h1 hx (kl_inj (fit_max f1.1) (fit_max f1.2) (fit_max f2.1) (fit_max f2.2) e))
  · rw [List.nodup_append]
    refine ⟨h.nodup, by simp, ?_⟩
    intro p hp q hq e
    simp at hq
    subst hq
    subst e
    have := ((h.mem p).1 hp).2
    rw [hl] at this
    cases this
theorem nodup_of {L : List Pl} (h : Apart L) : L.Nodup := by
  unfold Apart List.Nodup at *
  rw [List.pairwise_map] at h
  exact h.imp (fun {a b} hne e => hne (by rw [e]))
theorem Col.fin {D : DataW Unit} {L : List Pl} {left : Lit → Bool} {acc : List Pl} (hM : HoldsM D L) (h : Col L left acc) (hl : ∀ k, left k = false) : acc.Perm L :=
  (List.perm_ext_iff_of_nodup h.nodup (nodup_of hM.apart)).2 (fun p => by rw [h.mem p]; exact ⟨fun q => q.1, fun q => ⟨q, hl _⟩⟩)
/-- what holds on the way -/
structure Rs (w : World) (b n : Nat) (D : DataW Unit) (L : List Pl) (left : Lit → Bool) (cnt : Nat) (v : Value) (acc : List Pl) (wr : World) : Prop where
  rg : wr.ranges Tryd.prog 43 R b w.heap.size n D left cnt
  own : wr.ownsRow (w.heap.size + 1) 33 5 v acc.length (cs acc)
  col : Col L left acc
  few : acc.length + cnt ≤ n
  lt : w.heap.size + 1 ≤ wr.heap.size
  below : Below w.heap.size w wr
theorem Rs.next {w wr w1 : World} {b n cnt : Nat} {D : DataW Unit} {L acc : List Pl} {left : Lit → Bool} {v : Value} (h : Rs w b n D L left cnt v acc wr) (hb : Below wr.heap.size wr w1) : Rs w b n D L left cnt v acc w1 := by
  refine ⟨h.rg.kept (below_grew hb none) (by simp) (by simp), h.own.kept (below_grew hb none) ?_, h.col, h.few, Nat.le_trans h.lt hb.size, below_trans h.below hb⟩
  cases v.ownBlock with
  | none => exact .inl rfl
  | some g => exact .inr (by simp)
theorem Rs.alloc {w wr : World} {b n cnt : Nat} {D : DataW Unit} {L acc : List Pl} {left : Lit → Bool} {v : Value} (h : Rs w b n D L left cnt v acc wr) (o : Obj) : Rs w b n D L left cnt v acc (wr.alloc o) := h.next (below_alloc1 wr o)
set_option maxRecDepth 100000 in
set_option maxHeartbeats 4000000 in
theorem rising_any (b n : Nat) (D : DataW Unit) (L : List Pl) (w : World) (hown : w.ownsMap Tryd.prog 43 R b n D) (hM : HoldsM D L) (hn : n ≤ 1000000) :
    Calls Tryd.prog 13 #[.map (some b)] w fun e w' => ∃ (v : Value) (r : List Pl), e = .returned v ∧ w'.ownsRow w.heap.size 33 5 v r.length (cs r) ∧ r.Perm L ∧ r.Pairwise (fun a b => lessP b a = false) ∧ Below w.heap.size w w' := by
  have hni : (n : Int) ≤ 1000000 := by omega
  have hblt := hown.lt
  have HM := mkHid hM
  have HO := mkHid hown
  clear hM hown
  go_enter Tryd.func13, Tryd.ntmps13
  go_wp2_with (first
    | (at_range; refine wpList_range_own _ rfl _ 35 rfl 43 33 lawK Tryd.underlying35 _ b n _ rfl HO.out ?_; intro w0 hrg0 hg0 hs0)
    | fail)
  go_frame
  have S0 : Hid (Rs w b n D L (Maps.has D) (Maps.size D) (.slice none 0 0) [] w0) := mkHid ⟨hrg0, World.ownsRow_nil _ _ _ _, Col.start HM.out, by have := HO.out.size_le; simpa using this, by omega, ⟨hg0.os, hg0.tape, hg0.output, hg0.size, fun k hk => hg0.block k hk (by simp)⟩⟩
  clear hrg0 hg0 hs0
  go_loopw [3, 5] (fun v p wr => ∃ (left : Lit → Bool) (cnt : Nat) (acc : List Pl) (a : Option Addr) (c : Nat), v = .slice a acc.length c ∧ Hid (Rs w b n D L left cnt (.slice a acc.length c) acc wr))
    (fun _ _ wr => wr.rangeLeft b w.heap.size)
  case atStart => exact ⟨_, _, [], none, 0, rfl, S0⟩
  case round =>
    obtain ⟨left, cnt, acc, a, c, rfl, S⟩ := hrel
    clear S0
    go_wp2_with (first
      | (at_next; refine wpList_next_pl _ rfl _ rfl b w.heap.size n D left cnt rfl S.out.rg L HM.out ?_ ?_)
      | fail)
    · intro hl0
      have hperm := mkHid (S.out.col.fin HM.out hl0)
      have hlen : acc.length ≤ 1048576 := by have := S.out.few; omega
      have HS := mkHid (sort_own wr (w.heap.size + 1) _ acc hlen S.out.own)
      go_wp2_with fail
      refine HS.out.mono ?_
      rintro e w2 ⟨rfl, d, hd1, hd2, hd3, hd4⟩
      have F1 := mkHid (And.intro hd3 (S.out.below.grown hd4 S.out.below.size (fun j hj => by have := (S.out.own.lt j hj).1; omega)))
      have F2 := mkHid (And.intro (hd1.trans hperm.out) hd2)
      have hdl := hd1.length_eq
      have F3 : Hid (w2.ownsRow w.heap.size 33 5 (.slice a acc.length c) d.length (cs d)) := mkHid (by
        rw [hdl]
        rcases F1.out.1.2 with ⟨h1, h2⟩ | ⟨g, cap, cur, h1, h2, h3⟩
        · exact ⟨F1.out.1.1, .inl ⟨h1, h2⟩⟩
        · exact ⟨F1.out.1.1, .inr ⟨g, cap, cur, h1, by omega, h3⟩⟩)
      clear hd1 hd2 hd3 hd4 HS hperm S hdl
      go_wp2
      go_ret
      exact ⟨_, d, rfl, F3.out, F2.out.1, F2.out.2, F1.out.2⟩
    · intro x0 x1 x2 x3 x4 w1 cnt1 hx hlx hrg1 hlt hg1 hs1 hen
      have hfx := HM.out.fits _ hx
      simp only at hfx
      have hcnt := S.out.few
      have hal : (acc.length : Int) + 1 ≤ 1000000 := by omega
      have hO1 : w1.ownsRow (w.heap.size + 1) 33 5 (.slice a acc.length c) acc.length (cs acc) := S.out.own.kept hg1 (by
        cases hv : (Value.slice a acc.length c).ownBlock with
        | none => exact .inl rfl
        | some g => exact .inr (fun e => by have := (S.out.own.lt g hv).1; simp at e; omega))
      have S1 : Hid (Rs w b n D L left cnt (.slice a acc.length c) acc wr ∧ w1.ownsRow (w.heap.size + 1) 33 5 (.slice a acc.length c) acc.length (cs acc) ∧ Below w.heap.size w w1 ∧ w.heap.size + 1 ≤ w1.heap.size) := mkHid ⟨S.out, hO1, S.out.below.grown hg1 (by have := S.out.lt; omega) (fun j hj => by cases hj; exact Nat.le_refl _), by have := S.out.lt; omega⟩
      have HC := mkHid (fun wx => copyPlace_any x0 x1 x2 x3 x4 wx hfx.1 hfx.2)
      have hleft := S.out.rg.left_eq
      clear S hO1
      go_wp2_with fail
      refine (HC.out _).mono ?_
      rintro e w3 ⟨rfl, hb3⟩
      have hb : Below w1.heap.size w1 w3 := below_trans (below_alloc1 w1 _) hb3
      have hO3 := S1.out.2.1.kept (below_grew hb none) (by
        cases (Value.slice a acc.length c).ownBlock with
        | none => exact .inl rfl
        | some g => exact .inr (by simp))
      have hs3 : w.heap.size + 1 ≤ w3.heap.size := Nat.le_trans S1.out.2.2.2 hb.size
      obtain ⟨g, c', w4, happ, hO4, hg4⟩ := rwPlace.app (W := w3) (base := w.heap.size + 1) (.slice a acc.length c) acc.length acc x0 x1 x2 x3 x4 rfl hO3 hs3 (by omega)
      have hr3 := hrg1.kept (below_grew hb none) (by simp) (by simp)
      have hr4 := (hr3.alloc (.cells #[.string x0, .string x1, .int .i64 x2, .int .i64 x3, .int .i64 x4] 33)).kept hg4 (fun e => by have := (hO3.lt b e.symm).1; omega) (fun e => by have := (hO3.lt w.heap.size e.symm).1; omega)
      have hB4 := (below_trans S1.out.2.2.1 hb).alloc (by omega) (.cells #[.string x0, .string x1, .int .i64 x2, .int .i64 x3, .int .i64 x4] 33)
      have hlen1 : (acc ++ [(x0, x1, x2, x3, x4)]).length = acc.length + 1 := by rw [List.length_append, List.length_singleton]
      have hcol : Col L (fun z => left z && !z.sameKey (kl (x0, x1))) (acc ++ [(x0, x1, x2, x3, x4)]) := S1.out.1.col.step (x := (x0, x1, x2, x3, x4)) HM.out hx hlx
      have hlt4 : w.heap.size + 1 ≤ w4.heap.size := by have := hg4.size; simp only [World.size_alloc] at this; omega
      have hB5 : Below w.heap.size w w4 := hB4.grown hg4 (by simp only [World.size_alloc]; omega) (fun j hj => by have := (hO3.lt j hj).1; omega)
      have hfew : acc.length + 1 + cnt1 ≤ n := by omega
      have N1 : Hid (Rs w b n D L (fun z => left z && !z.sameKey (kl (x0, x1))) cnt1 (.slice (some ⟨g, 0, none⟩) (acc.length + 1) c') (acc ++ [(x0, x1, x2, x3, x4)]) w4) := mkHid ⟨hr4, by rw [hlen1]; exact hO4, hcol, by rw [hlen1]; exact hfew, hlt4, hB5⟩
      clear hcol hlt4 hB5 hfew
      rw [← hlen1] at N1
      have HLN := mkHid hlen1.symm
      clear hlen1
      have HL1 := mkHid (show w4.rangeLeft b w.heap.size < wr.rangeLeft b w.heap.size by rw [hr4.left_eq, hleft]; exact hlt)
      clear S1 hrg1 hr3 hr4 hO3 hO4 hg4 hB4 hb hb3 HC hx hlx hen hg1 hleft
      go_wp2
      go_roundw
      case rel => exact ⟨_, cnt1, acc ++ [(x0, x1, x2, x3, x4)], some ⟨g, 0, none⟩, c', by rw [← HLN.out], N1⟩
      case measure => exact HL1.out
end Go.Proofs.YtppjbmmeacmoiaaDoor.plc
