/-
  What spec.HashRight, HashBegin, HashMore, HashEnd and Digest answer and leave. Conditions: at most 1,048,576 numbers, which lie in memory; at most 1,048,576 bytes.
-/
import Derived.Test.YtkkndkikfphnbaaDoorRowF
namespace Go.Proofs.YtkkndkikfphnbaaDoor.sha
open Go.RowKit Go.Joins
open Go.Proofs.YtkkndkikfphnbaaDoor.base Go.Proofs.YtkkndkikfphnbaaDoor.ints Go.Proofs.YtkkndkikfphnbaaDoor.blk
set_option linter.unusedVariables false

def u32B (z : Int) : Bool := decide (0 ≤ z ∧ z ≤ 4294967295)
/-- is a Hash right? -/
def hRight (zs : List Int) (r : ByteArray) (size : Int) : Bool := decide (zs.length = 8 ∧ (0 ≤ size ∧ size ≤ 1099511627776) ∧ (r.size : Int) = size % 64) && zs.all u32B

theorem all_next {zs : List Int} {k : Nat} {z : Int} (hz : zs[k]? = some z) (h : (zs.take k).all u32B = true) (hb : u32B z = true) : (zs.take (k + 1)).all u32B = true := by
  rw [List.take_add_one, hz, List.all_append, h]
  simp [hb]
theorem all_not {zs : List Int} {k : Nat} {z : Int} (hz : zs[k]? = some z) (hb : u32B z = false) : zs.all u32B = false := by
  rw [List.all_eq_false]
  exact ⟨z, List.mem_of_getElem? hz, by simp [hb]⟩

set_option maxRecDepth 100000 in
set_option maxHeartbeats 1000000 in
theorem right_any (a : Option Addr) (cap : Nat) (zs : List Int) (r : ByteArray) (size : Int) (w : World) (hl : zs.length ≤ 1048576) (hr : Rd w a zs) (hrs : r.size ≤ 1048576) :
    Calls Tryd.prog 39 #[hash a zs.length cap r size] w fun e w' => e = .returned (.bool (hRight zs r size)) ∧ Below w.heap.size w w' := by
  have al : ∀ o, Below w.heap.size w (w.alloc o) := fun o => below_alloc1 w o
  unfold hash
  go_enter Tryd.func39, Tryd.ntmps39
  by_cases h1 : (zs.length : Int) = 8
  · by_cases h2 : size < 0
    · have E := mkHid (show hRight zs r size = false by simp [hRight]; omega)
      go_wp2
      go_ret
      exact ⟨ints.ret_eq E.out.symm, al _⟩
    · by_cases h3 : 1099511627776 < size
      · have E := mkHid (show hRight zs r size = false by simp [hRight]; omega)
        have h2' : 0 ≤ size := by omega
        go_wp2
        go_ret
        exact ⟨ints.ret_eq E.out.symm, al _⟩
      · have h2' : 0 ≤ size := by omega
        have h3' : size ≤ 1099511627776 := by omega
        by_cases h4 : (r.size : Int) = size % 64
        · have h8 : zs.length = 8 := by omega
          go_wp2
          go_loopw [3] (fun i wr => ∃ k : Nat, k ≤ 8 ∧ i = .int .i64 k ∧ Hid ((zs.take k).all u32B = true) ∧ Hid (wr.heap[w.heap.size]? = some (.cells #[.slice a 8 cap, .string r, .int .i64 size] 27) ∧ Below w.heap.size w wr))
            (fun i _ => 8 - (intOf i).toNat)
          case atStart => exact ⟨0, by omega, rfl, mkHid (by simp), mkHid ⟨blk_new w _ _ rfl, al _⟩⟩
          case round =>
            obtain ⟨k, hk, rfl, hall, hB⟩ := hrel
            have c0 : wr.cell? ⟨w.heap.size, 0, none⟩ = some (.slice a 8 cap) := cell_of_block hB.out.1 0
            by_cases hlt : k < 8
            · obtain ⟨z, hz⟩ : ∃ z, zs[k]? = some z := ⟨_, List.getElem?_eq_getElem (by omega)⟩
              obtain ⟨b, off, rfl, hc⟩ := hr k z hz
              have hcell : wr.cell? ⟨b, off + k, none⟩ = some (.int .i64 z) := (hB.out.2.cell (p := ⟨b, off + k, none⟩) (World.block_lt_of_cell? w ⟨b, off + k, none⟩ hc)).trans hc
              have bk : (k : Int) < 8 := by omega
              cases hu : u32B z
              · have E := mkHid (show hRight zs r size = false by unfold hRight; rw [all_not hz hu]; simp)
                have hu' : z < 0 ∨ (0 ≤ z ∧ 4294967295 < z) := by simp [u32B] at hu; omega
                clear hu hz hall hc
                rcases hu' with hu' | ⟨hu', hu2⟩
                · go_wp2
                  go_ret
                  exact ⟨ints.ret_eq E.out.symm, hB.out.2⟩
                · go_wp2
                  go_ret
                  exact ⟨ints.ret_eq E.out.symm, hB.out.2⟩
              · have N1 := mkHid (all_next hz hall.out hu)
                have hu' : 0 ≤ z ∧ z ≤ 4294967295 := by simpa [u32B] using hu
                obtain ⟨hu1, hu2⟩ := hu'
                clear hu hz hall hc
                go_wp2
                go_roundw
                case rel => exact ⟨k + 1, by omega, by go_num, N1, hB⟩
                case measure => simp [intOf]; omega
            · have E := mkHid (show hRight zs r size = true by
                have ha := hall.out
                rw [List.take_of_length_le (by omega)] at ha
                unfold hRight
                rw [ha]
                simp
                omega)
              clear hall
              go_wp2
              go_ret
              exact ⟨ints.ret_eq E.out.symm, hB.out.2⟩
        · have E := mkHid (show hRight zs r size = false by simp [hRight]; omega)
          go_wp2
          go_ret
          exact ⟨ints.ret_eq E.out.symm, al _⟩
  · have E := mkHid (show hRight zs r size = false by simp [hRight]; omega)
    go_wp2
    go_ret
    exact ⟨ints.ret_eq E.out.symm, al _⟩
end Go.Proofs.YtkkndkikfphnbaaDoor.sha
