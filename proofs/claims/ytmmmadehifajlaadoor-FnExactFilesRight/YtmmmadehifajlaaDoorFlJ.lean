/-
  What impl.pathRight answers and leaves. Conditions: a text of at most 1,048,576 bytes; internal/bytealg.MaxLen holds a number.
-/
import Derived.Test.YtmmmadehifajlaaDoorFlI
namespace Go.Proofs.YtmmmadehifajlaaDoor.fil
open Go.RowKit Go.Joins Go.Shelf
open Go.Proofs.YtmmmadehifajlaaDoor.base Go.Proofs.YtmmmadehifajlaaDoor.blk Go.Proofs.YtmmmadehifajlaaDoor.aid
open Go.Proofs.YtmmmadehifajlaaDoor.seg (segs)
open Go.Proofs.YtmmmadehifajlaaDoor.obj (nameB name_small)
set_option linter.unusedVariables false
set_option linter.unusedSimpArgs false

/-- internal/bytealg.MaxLen holds a number -/
def GM (w : World) : Prop := ∃ m, w.cell? ⟨Tryd.lays147_ren.g 1, 0, none⟩ = some (.int .i64 m)
theorem GM.below {w w' : World} (h : GM w) (hb : Below w.heap.size w w') : GM w' := by
  obtain ⟨m, hm⟩ := h
  exact ⟨m, (hb.cell (World.block_lt_of_cell? w _ hm)).trans hm⟩
theorem GM.shaped {w : World} (h : w.ShapedOpen Tryd.prog) : GM w := Tryd.lays147.s1_3 w h
theorem segs_count : ∀ l : List UInt8, (segs l).length ≤ l.length + 1
  | [] => by simp [segs]
  | c :: r => by
    have h := segs_count r
    unfold segs
    split
    · simp
      exact h
    · cases hr : segs r with
      | nil => simp
      | cons x t =>
        rw [hr] at h
        simp at h ⊢
        omega
/-- the pieces that the library tells -/
def pcs (s : ByteArray) : List ByteArray := Lib.splitB ⟨#[47]⟩ 0 (min 6 (s.size + 1) - 1) s
theorem tb_data (t : ByteArray) : tb t.data.toList = t := by
  apply ByteArray.ext
  simp [tb]
theorem pcs_data (s : ByteArray) : (pcs s).map (·.data.toList) = Lib.splitK [47] 0 (min 6 (s.size + 1) - 1) s.data.toList := Lib.splitB_data ⟨#[47]⟩ 0 _ s
theorem map_tb {l : List ByteArray} {m : List (List UInt8)} (h : l.map (·.data.toList) = m) : l = m.map tb := by
  rw [← h, List.map_map]
  have : (tb ∘ fun t : ByteArray => t.data.toList) = id := funext tb_data
  rw [this, List.map_id]
theorem pcs_six (s : ByteArray) : (pcs s).length ≤ 6 := by
  have h := Lib.splitB_length_le ⟨#[47]⟩ 0 (min 6 (s.size + 1) - 1) s
  unfold pcs
  omega
theorem pcs_path (s : ByteArray) : pathB s = ((pcs s).all nameB && decide ((pcs s).length ≤ 5)) := by
  have hd := pcs_data s
  have hc := segs_count s.data.toList
  have hsz : s.data.toList.length = s.size := by rw [Array.length_toList]; rfl
  obtain ⟨q1, q2⟩ := seg.splitK_segs (min 6 (s.size + 1) - 1) s.data.toList
  by_cases h : (segs s.data.toList).length ≤ min 6 (s.size + 1) - 1 + 1
  · rw [q1 h] at hd
    have e : pcs s = partsT s := map_tb hd
    rw [e, pathB_is, Bool.and_comm]
  · have h1 := q2 (by omega)
    have h2 : (pcs s).length = min 6 (s.size + 1) - 1 + 1 := by
      have := congrArg List.length hd
      rw [List.length_map] at this
      omega
    have e1 : decide ((pcs s).length ≤ 5) = false := by simp; omega
    rw [e1, Bool.and_false]
    unfold pathB
    have e2 : decide ((segs s.data.toList).length ≤ 5) = false := by simp; omega
    rw [e2, Bool.false_and]
theorem splitK_le : ∀ (k : Nat) (l g : List UInt8), g ∈ Lib.splitK [47] 0 k l → g.length ≤ l.length
  | 0, l, g, h => by simp [Lib.splitK] at h; subst h; exact Nat.le_refl _
  | k + 1, l, g, h => by
    rw [Lib.splitK] at h
    split at h
    · simp at h
      subst h
      exact Nat.le_refl _
    · rcases List.mem_cons.1 h with rfl | h
      · rw [List.length_take]
        exact Nat.min_le_right _ _
      · have := splitK_le k _ g h
        rw [List.length_drop] at this
        omega
theorem pcs_small (s : ByteArray) (hs : s.size ≤ 1048576) : ∀ t ∈ pcs s, t.size ≤ 1048576 := by
  intro t ht
  have h1 : t.data.toList ∈ (pcs s).map (·.data.toList) := List.mem_map_of_mem ht
  rw [pcs_data] at h1
  have h2 := splitK_le _ _ _ h1
  have hsz : s.data.toList.length = s.size := by rw [Array.length_toList]; rfl
  have hst : t.data.toList.length = t.size := by rw [Array.length_toList]; rfl
  omega
theorem pcs_cell {l : List ByteArray} {N k : Nat} {t : ByteArray} (h : l[k]? = some t) : (Lib.cellsOf l N)[k]? = some (.string t) := by
  have hlt := (List.getElem?_eq_some_iff.1 h).1
  unfold Lib.cellsOf
  rw [List.getElem?_toArray, List.getElem?_append_left (by simpa using hlt), List.getElem?_map, h]
  rfl
def pcObj (s : ByteArray) : Obj := .cells (Lib.cellsOf (pcs s) (min 6 (s.size + 1))) 9
theorem split_any6 (s : ByteArray) (w : World) (hs : s.size ≤ 1048576) (hG : GM w) :
    Calls Tryd.prog 17 #[.string s, .string ⟨#[47]⟩, .int .i64 6] w fun e w' => e = .returned (.slice (some ⟨w.heap.size, 0, none⟩) (pcs s).length (min 6 (s.size + 1))) ∧ w' = w.alloc (pcObj s) := by
  obtain ⟨m, hm⟩ := hG
  exact Any.strings_SplitN { Tryd.lays147 with } Tryd.lays147.i9 s ⟨#[47]⟩ 6 m w (by omega) hm (by decide) (by omega) (by omega)
set_option maxRecDepth 100000 in
set_option maxHeartbeats 4000000 in
theorem pathI_any (s : ByteArray) (w : World) (hs : s.size ≤ 1048576) (hG : GM w) :
    Calls Tryd.prog 12 #[.string s] w fun e w' => e = .returned (.bool (pathB s)) ∧ w' = w.alloc (pcObj s) := by
  have HS := mkHid (split_any6 s w hs hG)
  have hpb := pcs_path s
  have hb := blk_new w (pcObj s) w.heap.size rfl
  have hcl := fun k t (h : (pcs s)[k]? = some t) => cell_of_row (w.alloc (pcObj s)) w.heap.size k _ _ _ hb
  have hcl2 : Hid (∀ k t, (pcs s)[k]? = some t → (w.alloc (pcObj s)).cell? ⟨w.heap.size, k, none⟩ = some (.string t)) := mkHid (fun k t h => (hcl k t h).trans (pcs_cell h))
  have HSz := mkHid (pcs_small s hs)
  have h6 := pcs_six s
  generalize pathB s = pb at *
  generalize min 6 (s.size + 1) = N at *
  generalize pcs s = ps at *
  generalize hW : w.alloc (pcObj s) = W1 at *
  have HPb := mkHid hpb
  clear hpb hb hcl hG hW
  go_enter Tryd.func12, Tryd.ntmps12
  go_wp2_with fail
  refine HS.out.mono ?_
  rintro e w1 ⟨rfl, rfl⟩
  clear HS
  have h6i : (ps.length : Int) ≤ 6 := by omega
  go_wp2_with fail
  go_loopw [5, 10] (fun _ i wr => ∃ k : Nat, k ≤ ps.length ∧ i = .int .i64 k ∧ Hid (pb = ((ps.drop k).all nameB && decide (ps.length ≤ 5))) ∧ wr = w1)
    (fun _ i _ => ps.length - (intOf i).toNat)
  case atStart => exact ⟨0, Nat.zero_le _, rfl, HPb, rfl⟩
  case round =>
    clear HPb
    obtain ⟨k, hk, rfl, HA, rfl⟩ := hrel
    by_cases hlt : k < ps.length
    · have hlti : (k : Int) < (ps.length : Int) := by omega
      obtain ⟨t, hx⟩ : ∃ y, ps[k]? = some y := ⟨_, List.getElem?_eq_getElem hlt⟩
      have hdr : ps.drop k = t :: ps.drop (k + 1) := by rw [List.drop_eq_getElem_cons hlt, (List.getElem?_eq_some_iff.1 hx).2]
      have HN := mkHid (fun wx => obj.name_impl t wx (HSz.out t (List.mem_of_getElem? hx)))
      have hcell := hcl2.out k t hx
      have hA := HA.out
      rw [hdr, List.all_cons] at hA
      cases hn : nameB t with
      | false =>
        rw [hn] at HN hA
        obtain rfl : pb = false := hA
        clear HA hdr hx
        go_wp2_with fail
        refine (HN.out _).mono ?_
        rintro e w2 ⟨rfl, rfl⟩
        go_wp2
        go_ret
        exact ⟨rfl, rfl⟩
      | true =>
        rw [hn, Bool.true_and] at hA
        rw [hn] at HN
        have HA2 := mkHid hA
        clear HA hA hdr hx
        go_wp2_with fail
        refine (HN.out _).mono ?_
        rintro e w2 ⟨rfl, rfl⟩
        go_wp2
        exact ⟨⟨k + 1, by omega, by go_num, HA2, trivial⟩, by simp [intOf]; omega⟩
    · obtain rfl : k = ps.length := by omega
      have hA := HA.out
      rw [List.drop_of_length_le (Nat.le_refl _)] at hA
      by_cases h5 : ps.length ≤ 5
      · have h5i : (ps.length : Int) ≤ 5 := by omega
        obtain rfl : pb = true := by rw [hA]; simp [h5]
        clear HA hA
        go_wp2
        go_ret
        exact ⟨rfl, rfl⟩
      · have h5i : ¬ (ps.length : Int) ≤ 5 := by omega
        obtain rfl : pb = false := by rw [hA]; simp [h5]
        clear HA hA
        go_wp2
        go_ret
        exact ⟨rfl, rfl⟩
end Go.Proofs.YtmmmadehifajlaaDoor.fil
