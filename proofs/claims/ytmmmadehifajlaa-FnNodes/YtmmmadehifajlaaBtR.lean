/-
  A row of bytes that a conversion laid or an append grew: text put behind it. No condition.
-/
import Derived.Test.YtmmmadehifajlaaBtP
import Derived.Test.YtmmmadehifajlaaCells
import Derived.Lib.AppendStr
import Derived.Lib.FrozenHead
import Derived.Laws.IdiomStrings
namespace Go.Proofs.Ytmmmadehifajlaa.plc
open Go.RowKit Go.Joins
open Go.Proofs.Ytmmmadehifajlaa.base Go.Proofs.Ytmmmadehifajlaa.blk Go.Proofs.Ytmmmadehifajlaa.aid
open Go.Proofs.Ytmmmadehifajlaa.row (appSem app_fold)
set_option linter.unusedVariables false

/-- bytes stand in a row of our own, nothing in it is frozen -/
structure BRow (w : World) (base g n cap : Nat) (acc : List UInt8) : Prop where
  len : acc.length = n
  lo : base ≤ g
  nc : n ≤ cap
  cm : cap ≤ maxLen
  row : ∃ (cur : Array Value) (fz : Nat × Nat), w.heap[g]? = some (.cells cur 5 fz) ∧ (∀ j, j < cur.size → ¬ (fz.1 ≤ j ∧ j < fz.2)) ∧ cur.size = cap ∧ cur.toList.take n = acc.map byteV
theorem BRow.lt {w : World} {base g n cap : Nat} {acc : List UInt8} (h : BRow w base g n cap acc) : g < w.heap.size := by
  obtain ⟨cur, fz, h1, _⟩ := h.row
  exact (Array.getElem?_eq_some_iff.1 h1).1
theorem BRow.below {w w' : World} {base g n cap : Nat} {acc : List UInt8} (h : BRow w base g n cap acc) (hb : Below w.heap.size w w') : BRow w' base g n cap acc := by
  obtain ⟨cur, fz, h1, h2⟩ := h.row
  exact ⟨h.len, h.lo, h.nc, h.cm, cur, fz, (hb.block g h.lt).trans h1, h2⟩
theorem BRow.cells {w : World} {base g n cap : Nat} {acc : List UInt8} (h : BRow w base g n cap acc) : ∀ j u, (acc.map byteV)[j]? = some u → w.cell? ((⟨g, 0, none⟩ : Addr).add j) = some u := by
  intro j u hu
  obtain ⟨cur, fz, h1, _, _, h4⟩ := h.row
  rw [Addr.add_lit, cell_of_row w g _ cur _ fz h1, Nat.zero_add]
  rw [← h4, List.getElem?_take] at hu
  split at hu
  · simpa using hu
  · cases hu
theorem store_one (w : World) (g j : Nat) (cur : Array Value) (T : TypeId) (fz : Nat × Nat) (v : Value) (hg : w.heap[g]? = some (.cells cur T fz)) (hf : ¬ (fz.1 ≤ j ∧ j < fz.2)) (hj : j < cur.size) (h1 : v.oneCell' = true) :
    (store ⟨g, j, none⟩ v).run Try.prog w = .ok () (w.setRow g (cur.setIfInBounds j v)) := by
  have hc : w.cell? ⟨g, j, none⟩ = some cur[j] := by simp [World.cell?, hg, hj]
  have hz : w.frozen? ⟨g, j, none⟩ = false := by
    obtain ⟨a, b⟩ := fz
    have hf' : ¬ (a ≤ j ∧ j < b) := hf
    simp [World.frozen?, hg]
    omega
  rw [run_store Try.prog w _ v _ h1, hc]
  simp [hz, setCell_eq_setRow w g j cur T fz v hg]
theorem seg (cur : Array Value) (v : Value) (r : List Value) (p : Nat) (h : p + (r.length + 1) ≤ cur.size) :
    ((cur.setIfInBounds p v).toList.take (p + 1) ++ r ++ (cur.setIfInBounds p v).toList.drop (p + 1 + r.length)).toArray = (cur.toList.take p ++ (v :: r) ++ cur.toList.drop (p + (r.length + 1))).toArray := by
  congr 1
  have e := list_seg_step cur.toList p v r (by simpa using h)
  rw [Array.toList_setIfInBounds]
  have e2 : p + 1 + r.length = p + (r.length + 1) := by omega
  rw [e2]
  simpa [e2] using e
theorem store_all (g p : Nat) (T : TypeId) (fz : Nat × Nat) : ∀ (vs : List Value) (i : Nat) (cur : Array Value) (w : World), w.heap[g]? = some (.cells cur T fz) → (∀ j, j < cur.size → ¬ (fz.1 ≤ j ∧ j < fz.2)) → p + i + vs.length ≤ cur.size → (∀ v ∈ vs, v.oneCell' = true) →
    (storeCells ⟨g, p, none⟩ vs i).run Try.prog w = .ok () (w.setRow g (cur.toList.take (p + i) ++ vs ++ cur.toList.drop (p + i + vs.length)).toArray)
  | [], i, cur, w, hg, _, _, _ => by
    have e : (cur.toList.take (p + i) ++ ([] : List Value) ++ cur.toList.drop (p + i + ([] : List Value).length)).toArray = cur := by simp
    rw [e, setRow_self w g cur T fz hg]
    rfl
  | v :: r, i, cur, w, hg, hf, hl, h1 => by
    rw [List.length_cons] at hl
    have hst := store_one w g (p + i) cur T fz v hg (hf _ (by omega)) (by omega) (h1 v (by simp))
    have ih := store_all g p T fz r (i + 1) (cur.setIfInBounds (p + i) v) (w.setRow g (cur.setIfInBounds (p + i) v)) (setRow_heap w g cur _ T fz hg) (by simpa using hf) (by simp; omega) (fun x hx => h1 x (List.mem_cons_of_mem _ hx))
    have hs := seg cur v r (p + i) hl
    have e3 : p + (i + 1) = p + i + 1 := by omega
    rw [e3, hs, setRow_setRow] at ih
    simp only [storeCells, Sem.run_bind, Addr.add_lit, hst, Result.andThen_ok, ih, List.length_cons]
theorem infoU : (Try.prog.info? 5).map (fun i => (i.zero, i.size, i.bytes)) = some (some (.int .u8 0), 1, 1) := by kernel_rfl
theorem strCells_is (s : ByteArray) : Lib.strCells s = s.data.toList.map byteV := rfl
/-- a text put behind -/
theorem brow_add (W : World) (base g n cap : Nat) (acc : List UInt8) (s : ByteArray) (h : BRow W base g n cap acc) (hb : base ≤ W.heap.size) (hn : n ≤ 1048576) (hs : s.size ≤ 1048576) :
    ∃ g' cap' w2, (appSem #[22, 9] 22 #[.slice (some ⟨g, 0, none⟩) n cap, .string s]).run Try.prog W = .ok (.slice (some ⟨g', 0, none⟩) (n + s.size) cap') w2 ∧ BRow w2 base g' (n + s.size) cap' (acc ++ s.data.toList) ∧ W.grownBy w2 (some g) := by
  obtain ⟨i0, hi, hz0, hz1, hz2⟩ := info_parts infoU
  obtain ⟨cur, fz, h1, h2, h3, h4⟩ := h.row
  have hxl : (acc.map byteV).length = n := by rw [List.length_map, h.len]
  have hlen : (acc ++ s.data.toList).length = n + s.size := by rw [List.length_append, h.len, len_list]
  by_cases hroom : n + s.size ≤ cap
  · have hf := Lib.run_firstCells_string (P := Try.prog) W 1 s
    have hst := store_all g n 5 fz (Lib.strCells s) 0 cur W h1 h2 (by rw [Lib.strCells_length]; omega) (Lib.strCells_oneCell s)
    simp only [Nat.add_zero, Lib.strCells_length] at hst
    have hrun : (Builtin.append_ #[22, 9] 22 #[.slice (some ⟨g, 0, none⟩) n cap, .string s]).run Try.prog W = .ok (.slice (some ⟨g, 0, none⟩) (n + s.size) cap) (W.setRow g (cur.toList.take n ++ Lib.strCells s ++ cur.toList.drop (n + s.size)).toArray) := by
      simp [Builtin.append_, run_underlying Try.underlying22, run_underlying Try.underlying9, sizeOf, typeInfo, hi, hz1, Builtin.lenOf, hroom, hf, Addr.add_lit, hst]
    refine ⟨g, cap, _, hrun, ⟨hlen, h.lo, hroom, h.cm, _, fz, setRow_heap W g cur _ _ fz h1, ?_, ?_, ?_⟩, ⟨rfl, rfl, rfl, by simp, fun k _ hk => setRow_other W g k _ (fun e => hk (by rw [e]))⟩⟩
    · intro j hj
      refine h2 j ?_
      simp [Lib.strCells_length] at hj
      omega
    · simp [Lib.strCells_length]
      omega
    · rw [List.map_append, ← strCells_is, ← h4]
      have hl2 : (cur.toList.take n ++ Lib.strCells s).length = n + s.size := by rw [List.length_append, Lib.strCells_length, List.length_take, Array.length_toList]; omega
      rw [← hl2]
      exact List.take_left
  · have hr := Lib.run_append_grow_string (P := Try.prog) W 22 9 22 5 i0 (.int .u8 0) Try.underlying22 Try.underlying9 hi hz0 ⟨g, 0, none⟩ n cap (acc.map byteV) (by rw [hz1, hxl, Nat.mul_one]) h.cells s (by omega) (by omega) (by rw [hz2]; exact growslice_fits (by omega) (by omega))
    have hge := grownCap_ge W (n + s.size) cap 5
    have hcm := grownCap_le_maxLen W (n + s.size) cap 5 (by unfold maxLen; omega)
    refine ⟨W.heap.size, _, _, hr, ⟨hlen, hb, hge, hcm, _, (0, 0), heap_alloc_new W.drew _, fun j _ => by simp, ?_, ?_⟩, ⟨rfl, rfl, rfl, by simp, fun k hk _ => heap_alloc_old W.drew _ hk⟩⟩
    · have hz : (Value.int IntKind.u8 0).cells.size = 1 := rfl
      simp only [Array.size_append, List.size_toArray, size_zeroCells, hz, hxl, Lib.strCells_length]
      omega
    · rw [List.map_append, ← strCells_is]
      simp only [Array.toList_append, List.append_assoc]
      have hl2 : (acc.map byteV ++ Lib.strCells s).length = n + s.size := by rw [List.length_append, Lib.strCells_length, hxl]
      rw [← List.append_assoc, ← hl2]
      exact List.take_left
def convSem (a b : TypeId) (v : Value) : Sem Value := convert a b v
theorem conv_fold (a b : TypeId) (v : Value) : convert a b v = convSem a b v := rfl
/-- a text as bytes -/
theorem brow_new (w : World) (s : ByteArray) (hs : s.size ≤ 1048576) :
    ∃ cap w1, (convSem 9 22 (.string s)).run Try.prog w = .ok (.slice (some ⟨w.heap.size, 0, none⟩) s.size cap) w1 ∧ BRow w1 w.heap.size w.heap.size s.size cap s.data.toList ∧ Below w.heap.size w w1 := by
  have hr := run_bytes_of_string (P := Try.prog) w 9 22 5 s Try.underlying9 Try.underlying22 Try.underlying5
  have hge := grownCap_ge w s.size 0 5
  have hcm := grownCap_le_maxLen w s.size 0 5 (by unfold maxLen; omega)
  refine ⟨_, _, hr, ⟨len_list s, Nat.le_refl _, hge, hcm, _, _, heap_alloc_new w.drew _, fun j hj => by simp; omega, ?_, ?_⟩, re (w := w) (below_alloc1 w.drew _) rfl rfl rfl rfl⟩
  · have : s.data.size = s.size := rfl
    simp [bytesRow]
    omega
  · have h1 : (s.data.map (fun b => Value.int .u8 b.toNat)).toList = s.data.toList.map byteV := by rw [Array.toList_map]; rfl
    have h2 : (s.data.toList.map byteV).length = s.size := by rw [List.length_map, len_list]
    unfold bytesRow
    rw [Array.toList_append, h1, List.take_append_of_le_length (by omega), List.take_of_length_le (by omega)]
/-- bytes as a text -/
theorem brow_text {w : World} {base g n cap : Nat} {acc : List UInt8} (h : BRow w base g n cap acc) : (convSem 22 9 (.slice (some ⟨g, 0, none⟩) n cap)).run Try.prog w = .ok (.string ⟨acc.toArray⟩) w := by
  have hl := h.len
  subst hl
  exact run_convert_bytes_back (P := Try.prog) w 22 9 5 ⟨g, 0, none⟩ cap acc Try.underlying22 Try.underlying5 Try.underlying9 (fun j hj => h.cells j _ (by simp [hj, byteV]))
end Go.Proofs.Ytmmmadehifajlaa.plc
