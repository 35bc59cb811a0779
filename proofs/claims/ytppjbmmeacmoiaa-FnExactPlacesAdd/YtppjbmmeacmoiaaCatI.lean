/-
  What slices.Grow and slices.Concat of rows of places, and the spot of a place, answer and leave. Conditions: at most 1,048,576 places, which lie in memory.
-/
import Derived.Test.YtppjbmmeacmoiaaPlRow
import Derived.Test.YtppjbmmeacmoiaaPlRS
namespace Go.Proofs.Ytppjbmmeacmoiaa.plc
open Go.RowKit Go.Joins Go.Sort
open Go.Proofs.Ytppjbmmeacmoiaa.base Go.Proofs.Ytppjbmmeacmoiaa.blk Go.Proofs.Ytppjbmmeacmoiaa.aid
open Go.Proofs.Ytppjbmmeacmoiaa.row (Rd Own OwnV appSem app_fold)
open Go.Proofs.Ytppjbmmeacmoiaa.rwPlace (cs el)
set_option linter.unusedVariables false
set_option linter.unusedSimpArgs false
attribute [local go_sem ↓] app_fold slice_fold

set_option maxRecDepth 100000 in
set_option maxHeartbeats 1000000 in
theorem grow_any (n : Nat) (w : World) (hn : n ≤ 1048576) :
    Calls Try.prog 51 #[.slice none 0 0, .int .i64 (n : Int)] w fun e w' => ∃ v, e = .returned v ∧ w'.ownsRow w.heap.size 37 5 v 0 (cs []) ∧ Below w.heap.size w w' := by
  by_cases h0 : n = 0
  · subst h0
    go_enter Try.func51, Try.ntmps51
    go_wp2
    go_ret
    exact ⟨_, rfl, World.ownsRow_nil _ _ _ _, Below.refl _ _⟩
  · have hp : 0 < n := by omega
    have hpi : 0 < (n : Int) := by omega
    have hni : (n : Int) ≤ 1048576 := by omega
    obtain ⟨C, w1, happ, hown, hC, hb⟩ := app_zeros w n hp hn
    have h1 : (sliceSem 25 (.slice none 0 0) none (some (.int .i64 0)) none).run Try.prog w = .ok (.slice none 0 0) w := sl_hi none 0 0 0 (by omega) w
    have h2 : (sliceSem 25 (.slice (some ⟨w.heap.size, 0, none⟩) n C) none (some (.int .i64 0)) none).run Try.prog w1 = .ok (.slice (some ⟨w.heap.size, 0, none⟩) 0 C) w1 := sl_hi (some ⟨w.heap.size, 0, none⟩) n C 0 (by omega) w1
    have HO := mkHid (And.intro hown hb)
    clear hown hb
    go_enter Try.func51, Try.ntmps51
    go_wp2
    go_ret
    exact ⟨_, rfl, HO.out.1, HO.out.2⟩
def sv (x : Option Addr × Nat × List Pl) : Value := .slice x.1 x.2.2.length x.2.1
def allP (ls : List (Option Addr × Nat × List Pl)) : List Pl := (ls.map (fun x => x.2.2)).flatten
theorem allP_snoc (ls : List (Option Addr × Nat × List Pl)) (k : Nat) (x : Option Addr × Nat × List Pl) (h : ls[k]? = some x) : allP (ls.take (k + 1)) = allP (ls.take k) ++ x.2.2 := by
  unfold allP
  rw [List.take_add_one, h]
  simp
theorem allP_le (ls : List (Option Addr × Nat × List Pl)) (k : Nat) : (allP (ls.take k)).length ≤ (allP ls).length := by
  have e : allP ls = allP (ls.take k) ++ allP (ls.drop k) := by
    unfold allP
    rw [← List.flatten_append, ← List.map_append, List.take_append_drop]
  rw [e, List.length_append]
  omega
set_option maxRecDepth 100000 in
set_option maxHeartbeats 2000000 in
theorem concat_any (a0 : Option Addr) (c0 : Nat) (ls : List (Option Addr × Nat × List Pl)) (w : World) (hr : Rd w a0 (ls.map sv)) (hls : ∀ x ∈ ls, Rd w x.1 (cs x.2.2)) (hn : ls.length ≤ 100) (ht : (allP ls).length ≤ 1048576) :
    Calls Try.prog 44 #[.slice a0 ls.length c0] w fun e w' => ∃ v, e = .returned v ∧ w'.ownsRow w.heap.size 37 5 v (allP ls).length (cs (allP ls)) ∧ Below w.heap.size w w' := by
  have hni : (ls.length : Int) ≤ 100 := by omega
  have HR := mkHid hr
  have HL := mkHid hls
  have HG := mkHid (fun (n : Nat) wx (h : n ≤ 1048576) => grow_any n wx h)
  have HT := mkHid ht
  clear hr hls ht
  go_enter Try.func44, Try.ntmps44
  go_wp2_with fail
  go_loopw [3, 5, 11] (fun z s i wr => ∃ k : Nat, k ≤ ls.length ∧ i = .int .i64 k ∧ z = .int .i64 ((allP (ls.take k)).length : Nat) ∧ wr = w)
    (fun _ _ i _ => ls.length - (intOf i).toNat)
  case atStart => exact ⟨0, Nat.zero_le _, rfl, by simp [allP], rfl⟩
  case round =>
    obtain ⟨k, hk, rfl, rfl, hw⟩ := hrel
    have hw' := hw.symm
    subst hw'
    clear hw
    by_cases hlt : k < ls.length
    · have hlti : (k : Int) < (ls.length : Int) := by omega
      obtain ⟨⟨a, c, l⟩, hx⟩ : ∃ y, ls[k]? = some y := ⟨_, List.getElem?_eq_getElem hlt⟩
      obtain ⟨b, off, rfl, hc⟩ := HR.out k (sv (a, c, l)) (by simp [hx])
      simp only [sv] at hc
      have hs := mkHid (allP_snoc ls k _ hx)
      have hle := allP_le ls (k + 1)
      have hle2 := HT.out
      have hz : (((allP (ls.take k)).length : Nat) : Int) + (l.length : Int) = (((allP (ls.take (k + 1))).length : Nat) : Int) := by rw [hs.out, List.length_append]; simp
      have hz3 : (((allP (ls.take (k + 1))).length : Nat) : Int) ≤ 1048576 := by omega
      have hz5 : (l.length : Int) ≤ 1048576 := by omega
      have hz6 : (((allP (ls.take k)).length : Nat) : Int) ≤ 1048576 := by omega
      generalize hn1 : (allP (ls.take (k + 1))).length = n1 at *
      have HN1 := mkHid hn1
      clear hn1
      generalize (allP (ls.take k)).length = n0 at *
      have HZ := mkHid hz
      have hneg : ((n0 : Int) + (l.length : Int) < 0) = False := eq_false (by omega)
      clear hx hs hle hle2 hz
      go_wp2
      exact ⟨⟨k + 1, by omega, by go_num, by rw [HN1.out, HZ.out], by first | rfl | trivial⟩, by simp [intOf]; omega⟩
    · obtain rfl : k = ls.length := by omega
      rw [List.take_of_length_le (Nat.le_refl _)]
      have HG2 := mkHid (HG.out (allP ls).length w HT.out)
      generalize hN : (allP ls).length = N at *
      go_wp2_with fail
      refine HG2.out.mono ?_
      rintro e w1 ⟨v, rfl, hown, hb⟩
      have O1 := mkHid (And.intro hown hb)
      clear hown hb HG HG2
      go_wp2_with fail
      go_loopw [6, 8, 27] (fun v s i wr => ∃ k : Nat, k ≤ ls.length ∧ i = .int .i64 k ∧ Hid (wr.ownsRow w.heap.size 37 5 v (allP (ls.take k)).length (cs (allP (ls.take k))) ∧ Below w.heap.size w wr))
        (fun _ _ i _ => ls.length - (intOf i).toNat)
      case atStart => exact ⟨0, Nat.zero_le _, rfl, mkHid (by simpa [allP] using O1.out)⟩
      case round =>
        obtain ⟨k, hk, rfl, hO⟩ := hrel
        by_cases hlt : k < ls.length
        · have hlti : (k : Int) < (ls.length : Int) := by omega
          obtain ⟨⟨a, c, l⟩, hx⟩ : ∃ y, ls[k]? = some y := ⟨_, List.getElem?_eq_getElem hlt⟩
          obtain ⟨b, off, rfl, hc⟩ := HR.out k (sv (a, c, l)) (by simp [hx])
          simp only [sv] at hc
          have hc2 := (hO.out.2.cell (p := ⟨b, off + k, none⟩) (World.block_lt_of_cell? w _ hc)).trans hc
          have hs := allP_snoc ls k _ hx
          have hle := allP_le ls (k + 1)
          have hle2 := HT.out
          have hrl := (HL.out _ (List.mem_of_getElem? hx)).below hO.out.2
          simp only at hs hrl
          obtain ⟨v', w2, happ, hown2, hgr⟩ := appRP wr w.heap.size _ _ _ hO.out.1 hO.out.2.size a c l hrl (by rw [hs, List.length_append] at hle; omega)
          have N1 : Hid (w2.ownsRow w.heap.size 37 5 v' (allP (ls.take (k + 1))).length (cs (allP (ls.take (k + 1)))) ∧ Below w.heap.size w w2) := mkHid ⟨by rw [hs, List.length_append]; exact hown2, hO.out.2.grown hgr hO.out.2.size (fun j hj => (hO.out.1.lt j hj).1)⟩
          clear hx hs hle hle2 hrl hown2 hgr hO hc
          go_wp2
          exact ⟨⟨k + 1, by omega, by go_num, N1⟩, by simp [intOf]; omega⟩
        · obtain rfl : k = ls.length := by omega
          have O2 := hO.out
          rw [List.take_of_length_le (Nat.le_refl _), hN] at O2
          have O3 := mkHid O2
          clear O2 hO
          go_wp2
          go_ret
          exact ⟨_, rfl, by rw [hN]; exact O3.out.1, O3.out.2⟩

def spO (s : ByteArray × ByteArray) : Obj := .cells #[.string s.1, .string s.2] 62
theorem spot_any (x0 x1 : ByteArray) (x2 x3 x4 : Int) (w : World) :
    Calls Try.prog 45 #[.agg #[.string x0, .string x1, .int .i64 x2, .int .i64 x3, .int .i64 x4]] w fun e w' => e = .returned (.agg #[.string x0, .string x1]) ∧ w' = (w.alloc (.cells #[.string x0, .string x1, .int .i64 x2, .int .i64 x3, .int .i64 x4] 37)).alloc (.cells #[.string x0, .string x1] 62) := by
  go_enter Try.func45, Try.ntmps45
  go_wp2
  exact bodyPost_ret (v := .agg #[.string x0, .string x1]) (by simp [results, Try.results45, go_sem]) rfl ⟨rfl, rfl⟩
end Go.Proofs.Ytppjbmmeacmoiaa.plc
