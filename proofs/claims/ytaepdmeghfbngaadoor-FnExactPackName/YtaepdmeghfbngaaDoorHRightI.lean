/-
  What impl.HashRight answers and leaves. Conditions: at most 1,048,576 numbers, which lie in memory; at most 1,048,576 bytes.
-/
import Derived.Test.YtaepdmeghfbngaaDoorHImplB
namespace Go.Proofs.YtaepdmeghfbngaaDoor.himpl
open Go.RowKit Go.Joins
open Go.Proofs.YtaepdmeghfbngaaDoor.base Go.Proofs.YtaepdmeghfbngaaDoor.ints Go.Proofs.YtaepdmeghfbngaaDoor.blk
open Go.Proofs.YtaepdmeghfbngaaDoor.sha (hRight u32B all_next all_not)
set_option linter.unusedVariables false

theorem rest_yes {zs : List Int} {r : ByteArray} {size : Int} (h8 : zs.length = 8) (h0 : 0 ≤ size) (h1 : size ≤ 1099511627776) (ha : zs.all u32B = true) : hRight zs r size = decide ((r.size : Int) = size % 64) := by
  unfold hRight
  rw [ha]
  by_cases h : (r.size : Int) = size % 64
  · simp [h, h8, h0, h1]
  · simp [h]

set_option maxRecDepth 100000 in
set_option maxHeartbeats 1000000 in
theorem right_any : IRight := by
  intro b0 off cap zs r size w hl hr hrs hs0 hs1
  have al : ∀ o, Below w.heap.size w (w.alloc o) := fun o => below_alloc1 w o
  unfold sha.hash
  go_enter Tryd.func19, Tryd.ntmps19
  by_cases h1 : (zs.length : Int) = 8
  · by_cases h2 : size < 0
    · have E := mkHid (show hRight zs r size = false by simp [hRight]; omega)
      go_wp2
      go_ret
      exact ⟨ints.ret_eq E.out.symm, al _⟩
    · by_cases h3 : 1099511627776 < size
      · have E := mkHid (show hRight zs r size = false by simp [hRight]; omega)
        have h2' : 0 ≤ size := by omega
        go_wp2
        go_ret
        exact ⟨ints.ret_eq E.out.symm, al _⟩
      · have h2' : 0 ≤ size := by omega
        have h3' : size ≤ 1099511627776 := by omega
        have h8 : zs.length = 8 := by omega
        go_wp2
        go_loopw [22] (fun i wr => ∃ k : Nat, k ≤ 8 ∧ i = .int .i64 k ∧ Hid ((zs.take k).all u32B = true) ∧ Hid (wr.heap[w.heap.size]? = some (.cells #[.slice (some ⟨b0, off, none⟩) 8 cap, .string r, .int .i64 size] 28) ∧ Below w.heap.size w wr))
          (fun i _ => 8 - (intOf i).toNat)
        case atStart => exact ⟨0, by omega, rfl, mkHid (by simp), mkHid ⟨blk_new w _ _ rfl, al _⟩⟩
        case round =>
          obtain ⟨k, hk, rfl, hall, hB⟩ := hrel
          by_cases hlt : k < 8
          · obtain ⟨z, hz⟩ : ∃ z, zs[k]? = some z := ⟨_, List.getElem?_eq_getElem (by omega)⟩
            obtain ⟨b', o', he, hc⟩ := hr k z hz
            simp at he
            obtain ⟨rfl, rfl⟩ := he
            have hcell : wr.cell? ⟨b0, off + k, none⟩ = some (.int .i64 z) := (hB.out.2.cell (p := ⟨b0, off + k, none⟩) (World.block_lt_of_cell? w ⟨b0, off + k, none⟩ hc)).trans hc
            have bk : (k : Int) < 8 := by omega
            cases hu : u32B z
            · have E := mkHid (show hRight zs r size = false by unfold hRight; rw [all_not hz hu]; simp)
              have hu' : z < 0 ∨ (0 ≤ z ∧ 4294967295 < z) := by simp [u32B] at hu; omega
              clear hu hz hall hc
              rcases hu' with hu' | ⟨hu', hu2⟩
              · go_wp2
                go_ret
                exact ⟨ints.ret_eq E.out.symm, hB.out.2⟩
              · go_wp2
                go_ret
                exact ⟨ints.ret_eq E.out.symm, hB.out.2⟩
            · have N1 := mkHid (all_next hz hall.out hu)
              have hu' : 0 ≤ z ∧ z ≤ 4294967295 := by simpa [u32B] using hu
              obtain ⟨hu1, hu2⟩ := hu'
              clear hu hz hall hc
              go_wp2
              go_roundw
              case rel => exact ⟨k + 1, by omega, by go_num, N1, hB⟩
              case measure => simp [intOf]; omega
          · have E := mkHid (rest_yes (r := r) h8 h2' h3' (by
              have ha := hall.out
              rw [List.take_of_length_le (by omega)] at ha
              exact ha))
            have c1 : wr.cell? ⟨w.heap.size, 1, none⟩ = some (.string r) := cell_of_block hB.out.1 1
            have c2 : wr.cell? ⟨w.heap.size, 2, none⟩ = some (.int .i64 size) := cell_of_block hB.out.1 2
            clear hall
            go_wp2
            go_ret
            exact ⟨ints.ret_eq E.out.symm, hB.out.2⟩
  · have E := mkHid (show hRight zs r size = false by simp [hRight]; omega)
    go_wp2
    go_ret
    exact ⟨ints.ret_eq E.out.symm, al _⟩
end Go.Proofs.YtaepdmeghfbngaaDoor.himpl
