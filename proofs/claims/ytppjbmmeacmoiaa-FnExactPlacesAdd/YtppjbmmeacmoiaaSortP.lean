/-
  slices.SortFunc of a row of places of our own, by impl.comparePlaces, in words of what it owns. Condition: at most 1,048,576 places.
-/
import Derived.Test.YtppjbmmeacmoiaaPlRI
import Derived.Test.YtppjbmmeacmoiaaFdI
import Derived.Test.YtppjbmmeacmoiaaPlRow
import Derived.Shelf.SlSortCmp.NoneTotal
namespace Go.Proofs.Ytppjbmmeacmoiaa.plc
open Go.RowKit Go.Joins Go.Sort
open Go.Proofs.Ytppjbmmeacmoiaa.base Go.Proofs.Ytppjbmmeacmoiaa.blk Go.Proofs.Ytppjbmmeacmoiaa.aid
open Go.Proofs.Ytppjbmmeacmoiaa.row (Rd Own OwnV appSem app_fold)
open Go.Proofs.Ytppjbmmeacmoiaa.rwPlace (cs el)
set_option linter.unusedVariables false
set_option linter.unusedSimpArgs false

theorem lt_is (x y : Pl) : ltOf cmpP x y = lessP x y := by
  unfold ltOf
  cases h : lessP x y with
  | true => exact decide_eq_true ((cmpP_neg x y).2 h)
  | false => exact decide_eq_false (by have := (cmpP_nonneg x y).2 h; omega)
theorem swo : SWO (ltOf cmpP) where
  irrefl x := by rw [lt_is]; exact lessS_irr _
  trans x y z h1 h2 := by rw [lt_is] at *; exact lessS_trans h1 h2
  ntrans x y z h1 h2 := by
    rw [lt_is] at *
    unfold lessP at *
    by_cases e : sp x = sp y
    · rw [e]; exact h2
    · have h3 := lessS_total h1 e
      cases h : lessS (sp x) (sp z) with
      | false => rfl
      | true => rw [lessS_trans h3 h] at h2; cases h2
theorem flat_is (d : Array Pl) : flatK enc 5 d = (cs d.toList).toArray := by
  refine ext_get! (by simp [rwPlace.cs_len]; omega) fun t ht => ?_
  have ht' : t < d.size * 5 := by simpa using ht
  rw [get_flatK _ _ _ t ht']
  have hi : t / 5 < d.size := by omega
  have hx : d.toList[t / 5]? = some d[t / 5] := by simp [hi]
  obtain ⟨h0, h1, h2, h3, h4⟩ := rwPlace.cs_at _ _ _ hx
  rw [getElem!_pos d (t / 5) hi]
  have hlt : t < (cs d.toList).toArray.size := by simp [rwPlace.cs_len]; omega
  rw [getElem!_pos _ t hlt]
  generalize d[t / 5] = x at *
  have key : ∀ v, (cs d.toList)[t]? = some v → (cs d.toList).toArray[t]'hlt = v := fun v hv => by
    have := (List.getElem?_eq_some_iff.1 hv).2
    simpa using this
  rcases (show t % 5 = 0 ∨ t % 5 = 1 ∨ t % 5 = 2 ∨ t % 5 = 3 ∨ t % 5 = 4 by omega) with h | h | h | h | h
  · have e : t / 5 * 5 = t := by omega
    rw [e] at h0
    rw [key _ h0, h]; rfl
  · have e : t / 5 * 5 + 1 = t := by omega
    rw [e] at h1
    rw [key _ h1, h]; rfl
  · have e : t / 5 * 5 + 2 = t := by omega
    rw [e] at h2
    rw [key _ h2, h]; rfl
  · have e : t / 5 * 5 + 3 = t := by omega
    rw [e] at h3
    rw [key _ h3, h]; rfl
  · have e : t / 5 * 5 + 4 = t := by omega
    rw [e] at h4
    rw [key _ h4, h]; rfl
theorem heap_put {w : World} {g n : Nat} {os : Array Obj} {cur : Array Value} {e : TypeId} {fr : Nat × Nat} (d : Array Value) (hb : w.heap[g]? = some (.cells cur e fr)) :
    (grow (putRow id (Sort.ahead w n) g 0 d) os).heap[g]? = some (.cells (putCells id 0 d cur) e fr) := by
  have hg : g < w.heap.size := (Array.getElem?_eq_some_iff.1 hb).1
  rw [heap_grow_old _ _ (by simpa using hg)]
  simp [putRow, mapBlock, Sort.ahead, Array.getElem?_modify, hb, onCells]
theorem grew_put {w : World} {g n : Nat} {os : Array Obj} (d : Array Value) : w.grownBy (grow (putRow id (Sort.ahead w n) g 0 d) os) (some g) := by
  refine ⟨rfl, rfl, rfl, by simp, fun k hk hne => ?_⟩
  rw [heap_grow_old _ _ (by simpa using hk)]
  have : g ≠ k := fun e => hne (by rw [e])
  simp [putRow, mapBlock, Sort.ahead, Array.getElem?_modify, this]
theorem take_put (cur : Array Value) (F : List Value) (h : F.length ≤ cur.size) : (putCells id 0 F.toArray cur).toList.take F.length = F := by
  apply List.ext_getElem?
  intro j
  by_cases hj : j < F.length
  · rw [List.getElem?_take_of_lt hj, Array.getElem?_toList]
    simp [putCells, hj, show j < cur.size by omega]
  · rw [List.getElem?_take_eq_none (by omega), List.getElem?_eq_none (by omega)]
theorem sort_own (w : World) (base : Nat) (v : Value) (r : List Pl) (hn : r.length ≤ 1048576) (hown : w.ownsRow base 37 5 v r.length (cs r)) :
    Calls Try.prog 46 #[v, .func (.func 29) #[] #[]] w fun e w' => e = .returned (.tuple #[]) ∧ ∃ d : List Pl, d.Perm r ∧ d.Pairwise (fun a b => lessP b a = false) ∧ w'.ownsRow base 37 5 v r.length (cs d) ∧ w.grownBy w' v.ownBlock := by
  by_cases h0 : r = []
  · subst h0
    obtain ⟨a, c, rfl⟩ := slice_of hown
    refine (AnyF.slices_SortFunc_none { Try.sortPl with } a c (.func (.func 29) #[] #[]) w).mono ?_
    rintro e w' ⟨rfl, rfl⟩
    exact ⟨rfl, [], List.Perm.refl _, .nil, hown, grew_refl _ _⟩
  · have hpos : 0 < r.length := by cases r with | nil => exact absurd rfl h0 | cons _ _ => simp
    obtain ⟨hlen, h2⟩ := hown
    rcases h2 with ⟨_, h2⟩ | ⟨g, cap, cur, rfl, hbase, hb, h1, h2, h3, h4⟩
    · omega
    · have hg : g < w.heap.size := (Array.getElem?_eq_some_iff.1 hb).1
      have hown : w.ownsRow base 37 5 (.slice (some ⟨g, 0, none⟩) r.length cap) r.length (cs r) := ⟨hlen, .inr ⟨g, cap, cur, rfl, hbase, hb, h1, h2, h3, h4⟩⟩
      have hO : Own 37 w g (cs r) := Own.owns hown
      have eg : ∀ args w, (callFunc 29 args).run Try.prog w = .ok (.enter 29 args) w := enters_of Try.func29 (by kernel_rfl) rfl
      have hH : HoldsK enc 5 w g 0 r.toArray := by
        unfold HoldsK
        rw [flat_is]
        intro j hj
        have hj' : j < (cs r).length := by simpa using hj
        refine ⟨?_, by rw [Nat.zero_add]; exact hO.free j⟩
        rw [Nat.zero_add, getElem!_pos _ j (by simpa using hj)]
        exact hO.cell (by simp [hj'])
      have h := AnyQ.slices_SortFunc Try.sortPl 5 Try.isAgg37 Try.sizeOf37 enc enc_len enc_one cmpP swo 29 #[] g 0 cap r.toArray w eg (fun m os dk hk x y => cmp_grown x y _ _ rfl) hH hg (by simp; omega)
      have hsz : r.toArray.size = r.length := by simp
      rw [hsz] at h
      refine h.mono ?_
      rintro e w' ⟨rfl, d', m, os, hp, hs, rfl⟩
      have hd : d'.size = r.length := by have := hp.1; simpa using this
      have hperm : d'.toList.Perm r := by
        have h5 := hp.2.2
        rw [← hd] at h5
        have e1 : d'.extract 0 d'.size = d' := by simp
        rw [e1] at h5
        have e2 : r.toArray.extract 0 d'.size = r.toArray := by rw [hd]; simp
        rw [e2] at h5
        simpa using h5
      refine ⟨rfl, d'.toList, hperm, ?_, ?_, ?_⟩
      · rw [List.pairwise_iff_getElem]
        intro i j hi hj hij
        have h6 := hs i j (Nat.zero_le _) hij (by simp at hj; omega)
        rw [lt_is] at h6
        rw [getElem!_pos d' i (by simpa using hi), getElem!_pos d' j (by simpa using hj)] at h6
        simpa using h6
      · unfold sortWorldK putRowK
        rw [flat_is]
        have hl5 : (cs d'.toList).length = r.length * 5 := by rw [rwPlace.cs_len]; simp [hd]; omega
        refine ⟨hl5, .inr ⟨g, cap, _, rfl, hbase, heap_put _ hb, h1, h2, by simp [putCells, h3], ?_⟩⟩
        rw [← hl5]
        exact take_put cur _ (by rw [hl5, h3]; exact Nat.mul_le_mul_right _ h1)
      · unfold sortWorldK putRowK
        exact grew_put _
end Go.Proofs.Ytppjbmmeacmoiaa.plc
