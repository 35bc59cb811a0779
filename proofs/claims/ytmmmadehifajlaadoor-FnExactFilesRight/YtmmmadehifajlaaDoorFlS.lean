/-
  What spec.l01Split (at slashes) and spec.l11Parts answer and leave. Condition: a text of at most 1,048,576 bytes.
-/
import Derived.Test.YtmmmadehifajlaaDoorSegP
import Derived.Test.YtmmmadehifajlaaDoorFlP
import Derived.Test.YtmmmadehifajlaaDoorMem
import Derived.Test.YtmmmadehifajlaaDoorStrM
namespace Go.Proofs.YtmmmadehifajlaaDoor.fil
open Go.RowKit Go.Joins
open Go.Proofs.YtmmmadehifajlaaDoor.base Go.Proofs.YtmmmadehifajlaaDoor.blk Go.Proofs.YtmmmadehifajlaaDoor.aid
open Go.Proofs.YtmmmadehifajlaaDoor.row (Rd Own OwnV appSem app_fold app1)
open Go.Proofs.YtmmmadehifajlaaDoor.strs (tx)
open Go.Proofs.YtmmmadehifajlaaDoor.seg (segs)
open Go.Proofs.YtmmmadehifajlaaDoor.obj (nameB name_small)
set_option linter.unusedVariables false
set_option linter.unusedSimpArgs false
attribute [local go_sem ↓] app_fold

theorem tx_app (l : List ByteArray) (t : ByteArray) : tx (l ++ [t]) = tx l ++ [.string t] := by simp [tx, strs.strV]
theorem appT (W : World) (base : Nat) (v : Value) (k : Nat) (acc : List ByteArray) (t : ByteArray) (hn : acc.length = k) (hown : W.ownsRow base 9 1 v k (tx acc)) (hb : base ≤ W.heap.size) (hl : k ≤ 1048576) :
    ∃ g c w2, (appSem #[32, 32] 32 #[v, .slice (some ⟨W.heap.size, 0, none⟩) 1 1]).run Tryd.prog (W.alloc (.cells #[.string t] 9)) = .ok (.slice (some ⟨g, 0, none⟩) (k + 1) c) w2 ∧ w2.ownsRow base 9 1 (.slice (some ⟨g, 0, none⟩) (k + 1) c) (k + 1) (tx (acc ++ [t])) ∧ (W.alloc (.cells #[.string t] 9)).grownBy w2 v.ownBlock := by
  obtain ⟨g, c, w2, h1, h2, h3⟩ := app1 (W := W) (base := base) (S := 32) (T := 9) (size := 1) (bytes := 16) Tryd.underlying32 strs.infoS rfl (by decide) v k (tx acc) [.string t] rfl (by intro u hu; simp at hu; subst hu; rfl) hown hb hl (by decide)
  exact ⟨g, c, w2, h1, by rw [tx_app]; exact h2, h3⟩
/-- the parts of a path -/
def partsT (s : ByteArray) : List ByteArray := (segs s.data.toList).map tb
/-- a row of texts of our own that grows -/
structure Tr (w : World) (acc : List ByteArray) (g c : Nat) (W : World) : Prop where
  below : Below w.heap.size w W
  row : W.ownsRow w.heap.size 9 1 (.slice (some ⟨g, 0, none⟩) acc.length c) acc.length (tx acc)
theorem Tr.app {w W : World} {acc : List ByteArray} {g c : Nat} (h : Tr w acc g c W) (t : ByteArray) (hl : acc.length ≤ 1048576) :
    ∃ g' c' w2, (appSem #[32, 32] 32 #[.slice (some ⟨g, 0, none⟩) acc.length c, .slice (some ⟨W.heap.size, 0, none⟩) 1 1]).run Tryd.prog (W.alloc (.cells #[.string t] 9)) = .ok (.slice (some ⟨g', 0, none⟩) (acc.length + 1) c') w2 ∧ Tr w (acc ++ [t]) g' c' w2 := by
  obtain ⟨g', c', w2, h1, h2, h3⟩ := appT W w.heap.size (.slice (some ⟨g, 0, none⟩) acc.length c) acc.length acc t rfl h.row h.below.size hl
  have hbl : Below w.heap.size W w2 := ((Below.refl w.heap.size W).alloc h.below.size _).grown h3 (by have := h.below.size; simp; omega) (fun x hx => (h.row.lt x hx).1)
  refine ⟨g', c', w2, h1, h.below.trans hbl, ?_⟩
  have e : (acc ++ [t]).length = acc.length + 1 := by simp
  rw [e]
  exact h2
theorem ext_tb (s : ByteArray) (i j : Nat) : s.extract i j = tb ((s.data.toList.drop i).take (j - i)) := by
  apply ByteArray.ext
  apply Array.toList_inj.1
  simp [tb, List.take_drop]
theorem get_list {s : ByteArray} {i : Nat} (h : i < s.size) : s.data.toList[i]? = some (s[i]'h) := by
  rw [Array.getElem?_toList]
  exact Array.getElem?_eq_getElem h
theorem drop_size (s : ByteArray) : s.data.toList.drop s.size = [] := by
  apply List.drop_of_length_le
  rw [Array.length_toList]
  exact Nat.le_refl _
theorem ne_slash {c : UInt8} (h : ¬ c = 47) : ¬ (c.toNat : Int) = 47 := fun e => h (UInt8.toNat_inj.1 (show c.toNat = (47 : UInt8).toNat by
  have : (47 : UInt8).toNat = 47 := rfl
  omega))
/-- what l01Split answers and leaves -/
def SpPost (w : World) (s : ByteArray) (e : Ending) (w' : World) : Prop :=
  ∃ g c, e = .returned (.slice (some ⟨g, 0, none⟩) (partsT s).length c) ∧ Tr w (partsT s) g c w'
set_option maxRecDepth 100000 in
set_option maxHeartbeats 2000000 in
theorem split_any (s : ByteArray) (w : World) (hs : s.size ≤ 1048576) :
    Calls Tryd.prog 15 #[.string s, .int .u8 47] w (SpPost w s) := by
  have hsi : (s.size : Int) ≤ 1048576 := by omega
  have T0 : Hid (Tr w [] w.heap.size 0 (w.alloc (.cells #[] 9))) := mkHid ⟨below_alloc1 w _, World.ownsRow_made (base := w.heap.size) (size := 1) w #[] 0 (Nat.le_refl _) (by decide) rfl⟩
  go_enter Tryd.func15, Tryd.ntmps15
  go_wp2_with fail
  go_loopw [5, 6, 7] (fun v fv iv wr => ∃ (F I : Nat) (acc : List ByteArray) (g c : Nat), fv = .int .i64 F ∧ iv = .int .i64 I ∧ v = .slice (some ⟨g, 0, none⟩) acc.length c ∧ F ≤ I ∧ I ≤ s.size ∧ acc.length ≤ F ∧ Hid (acc ++ (segs (s.data.toList.drop F)).map tb = partsT s) ∧ Hid (47 ∉ (s.data.toList.drop F).take (I - F)) ∧ Hid (Tr w acc g c wr))
    (fun _ _ i _ => s.size - (intOf i).toNat)
  case atStart => exact ⟨0, 0, [], w.heap.size, 0, rfl, rfl, rfl, Nat.le_refl _, Nat.zero_le _, by simp, mkHid rfl, mkHid (by simp), T0⟩
  case round =>
    clear T0
    obtain ⟨F, I, acc, g, c, rfl, rfl, rfl, hFI, hI, hal, HP, HN, T⟩ := hrel
    have hli : (I : Int) ≤ 1048576 := by omega
    have hFi : (F : Int) ≤ (I : Int) := by omega
    by_cases hlt : I < s.size
    · have hlti : (I : Int) < (s.size : Int) := by omega
      have hget := get_list hlt
      by_cases hc : s[I]'hlt = 47
      · have hcb : (((s[I]'hlt).toNat : Int) == 47) = true := by rw [hc]; rfl
        have hci : ((s[I]'hlt).toNat : Int) = 47 := by rw [hc]; rfl
        obtain ⟨g', c', w2, happ, hT⟩ := T.out.app (s.extract F I) (by omega)
        rw [hc] at hget
        have hseg := seg.segs_at s.data.toList F I hFI hget HN.out
        have N1 := mkHid hT
        have hl2 : (acc ++ [s.extract F I]).length = acc.length + 1 := by simp
        have N2 : Hid ((acc ++ [s.extract F I]) ++ (segs (s.data.toList.drop (I + 1))).map tb = partsT s) := mkHid (by
          rw [← HP.out, hseg, List.map_cons, ext_tb]
          simp)
        have N3 : Hid (47 ∉ (s.data.toList.drop (I + 1)).take (I + 1 - (I + 1))) := mkHid (by simp)
        have hsl : (I : Int) ≤ (s.size : Int) := by omega
        clear hget hseg hT T HP HN
        go_wp2
        exact ⟨⟨I + 1, I + 1, acc ++ [s.extract F I], g', c', by go_num, by go_num, by rw [hl2], Nat.le_refl _, by omega, by rw [hl2]; omega, N2, N3, N1⟩, by simp [intOf]; omega⟩
      · have hcn := ne_slash hc
        have hcb : (((s[I]'hlt).toNat : Int) == 47) = false := by simpa using hcn
        have N3 := mkHid (seg.seg_on s.data.toList F I _ hFI hget hc HN.out)
        clear hget HN hc
        go_wp2
        exact ⟨⟨F, I + 1, acc, g, c, rfl, by go_num, rfl, by omega, by omega, hal, HP, N3, T⟩, by simp [intOf]; omega⟩
    · obtain rfl : I = s.size := by omega
      obtain ⟨g', c', w2, happ, hT⟩ := T.out.app (s.extract F s.size) (by omega)
      have hF47 : 47 ∉ s.data.toList.drop F := by
        have := HN.out
        rw [List.take_of_length_le (by rw [List.length_drop, Array.length_toList]; exact Nat.le_refl _)] at this
        exact this
      have hfin : acc ++ [s.extract F s.size] = partsT s := by
        rw [← HP.out, seg.segs_none _ hF47, ext_tb, List.take_of_length_le (by rw [List.length_drop, Array.length_toList]; exact Nat.le_refl _)]
        rfl
      have hl2 : (partsT s).length = acc.length + 1 := by rw [← hfin]; simp
      rw [hfin] at hT
      have F1 : Hid (SpPost w s (.returned (.slice (some ⟨g', 0, none⟩) (acc.length + 1) c')) w2) := mkHid ⟨g', c', by rw [hl2], hT⟩
      clear hfin hF47 hT T HP HN hl2
      go_wp2
      go_ret
      exact F1.out
theorem segs_le : ∀ (l g : List UInt8), g ∈ segs l → g.length ≤ l.length
  | [], g, h => by simp [segs] at h; subst h; simp
  | c :: r, g, h => by
    unfold segs at h
    split at h
    · rcases List.mem_cons.1 h with rfl | h
      · simp
      · have := segs_le r g h
        simp
        omega
    · cases hr : segs r with
      | nil =>
        rw [hr] at h
        simp at h
        subst h
        simp
      | cons x t =>
        rw [hr] at h
        simp only at h
        rcases List.mem_cons.1 h with rfl | h
        · have := segs_le r x (by rw [hr]; exact .head _)
          simp
          omega
        · have := segs_le r g (by rw [hr]; exact .tail _ h)
          simp
          omega
theorem parts_size (s : ByteArray) (hs : s.size ≤ 1048576) : ∀ t ∈ partsT s, t.size ≤ 1048576 := by
  intro t ht
  obtain ⟨g, hg, rfl⟩ := List.mem_map.1 ht
  have h1 := segs_le _ _ hg
  have h4 : s.data.toList.length = s.size := by rw [Array.length_toList]; rfl
  have h2 : (tb g).size = g.length := by
    show g.toArray.size = g.length
    simp
  have h3 : s.data.size = s.size := rfl
  omega
theorem pathB_is (s : ByteArray) : pathB s = (decide ((partsT s).length ≤ 5) && (partsT s).all nameB) := by
  unfold pathB partsT namesB
  rw [List.length_map, List.all_map]
  rfl
set_option maxRecDepth 100000 in
set_option maxHeartbeats 2000000 in
theorem parts_any (s : ByteArray) (w : World) (hs : s.size ≤ 1048576) :
    Calls Tryd.prog 10 #[.string s] w fun e w' => ∃ v, e = .returned (.tuple #[v, .bool (pathB s)]) ∧ Below w.heap.size w w' := by
  have hsi : (s.size : Int) ≤ 1048576 := by omega
  have HS := mkHid (split_any s w hs)
  unfold SpPost at HS
  have hpb := pathB_is s
  generalize pathB s = pb at *
  go_enter Tryd.func10, Tryd.ntmps10
  go_wp2_with fail
  refine HS.out.mono ?_
  rintro e w1 ⟨g, c, rfl, hT⟩
  have T := mkHid hT
  have hsz := parts_size s hs
  generalize partsT s = ps at *
  clear HS hT
  by_cases h5 : 5 < ps.length
  · obtain rfl : pb = false := by rw [hpb]; simp; omega
    have h5i : (5 : Int) < (ps.length : Int) := by omega
    clear hpb hsz
    go_wp2
    exact bodyPost_ret (v := .tuple #[.slice (some ⟨g, 0, none⟩) ps.length c, .bool false]) (by simp [results, Tryd.results10, go_sem]) rfl ⟨_, rfl, T.out.below⟩
  · have h5i : (ps.length : Int) ≤ 5 := by omega
    have HPB : Hid (pb = ps.all nameB) := mkHid (by rw [hpb]; simp; omega)
    have HSz := mkHid hsz
    clear hpb hsz
    go_wp2_with fail
    go_loopw [5] (fun i wr => ∃ k : Nat, k ≤ ps.length ∧ i = .int .i64 k ∧ Hid (pb = (ps.drop k).all nameB) ∧ Hid (Tr w ps g c wr))
      (fun i _ => ps.length - (intOf i).toNat)
    case atStart => exact ⟨0, Nat.zero_le _, rfl, HPB, T⟩
    case round =>
      clear T HPB
      obtain ⟨k, hk, rfl, HA, T⟩ := hrel
      by_cases hlt : k < ps.length
      · have hlti : (k : Int) < (ps.length : Int) := by omega
        obtain ⟨t, hx⟩ : ∃ y, ps[k]? = some y := ⟨_, List.getElem?_eq_getElem hlt⟩
        have hdr : ps.drop k = t :: ps.drop (k + 1) := by rw [List.drop_eq_getElem_cons hlt, (List.getElem?_eq_some_iff.1 hx).2]
        have HN := mkHid (fun wx => obj.name_spec t wx (HSz.out t (List.mem_of_getElem? hx)))
        obtain ⟨b0, off, e, hcell⟩ := (Own.owns (n := ps.length) (c := c) T.out.row).rd k (.string t) (by simp [tx, strs.strV, hx])
        cases e
        rw [Nat.zero_add] at hcell
        have hA := HA.out
        rw [hdr, List.all_cons] at hA
        cases hn : nameB t with
        | false =>
          rw [hn] at HN hA
          obtain rfl : pb = false := hA
          have B := mkHid T.out.below
          clear HA hdr hx
          go_wp2_with fail
          refine (HN.out _).mono ?_
          rintro e w2 ⟨rfl, rfl⟩
          go_wp2
          exact bodyPost_ret (v := .tuple #[.slice (some ⟨g, 0, none⟩) ps.length c, .bool false]) (by simp [results, Tryd.results10, go_sem]) rfl ⟨_, rfl, B.out⟩
        | true =>
          rw [hn, Bool.true_and] at hA
          rw [hn] at HN
          have HA2 := mkHid hA
          clear HA hA hdr hx
          go_wp2_with fail
          refine (HN.out _).mono ?_
          rintro e w2 ⟨rfl, rfl⟩
          go_wp2
          exact ⟨⟨k + 1, by omega, by go_num, HA2, T⟩, by simp [intOf]; omega⟩
      · obtain rfl : k = ps.length := by omega
        have hA := HA.out
        rw [List.drop_of_length_le (Nat.le_refl _)] at hA
        obtain rfl : pb = true := hA
        have B := mkHid T.out.below
        clear HA
        go_wp2
        exact bodyPost_ret (v := .tuple #[.slice (some ⟨g, 0, none⟩) ps.length c, .bool true]) (by simp [results, Tryd.results10, go_sem]) rfl ⟨_, rfl, B.out⟩
end Go.Proofs.YtmmmadehifajlaaDoor.fil
