/-
  What spec.MatrixRight and impl.MatrixRight answer. Conditions: at most 1,048,576 cells, which lie in memory.
-/
import Derived.Test.YtoklibbefjnlhabMats
namespace Go.Proofs.Ytoklibbefjnlhab.right
open Go.RowKit Go.Joins
open Go.Proofs.Ytoklibbefjnlhab.base Go.Proofs.Ytoklibbefjnlhab.ints Go.Proofs.Ytoklibbefjnlhab.mats
set_option linter.unusedVariables false

def byteB (z : Int) : Bool := decide (0 ≤ z ∧ z ≤ 255)
def sideB (n : Int) : Bool := decide (1 ≤ n ∧ n ≤ 16)
/-- is a matrix right? -/
def right (R C : Int) (zs : List Int) : Bool := decide ((1 ≤ R ∧ R ≤ 16) ∧ (1 ≤ C ∧ C ≤ 16) ∧ (zs.length : Int) = R * C) && zs.all byteB

theorem l02_any (z : Int) (w : World) : Calls Try.prog 20 #[.int .i64 z] w fun e w' => e = .returned (.bool (byteB z)) ∧ w' = w := by
  go_enter Try.func20, Try.ntmps20
  by_cases h0 : 0 ≤ z
  · by_cases h1 : z ≤ 255
    · go_wp2
      go_ret
      exact ⟨ret_eq (by simp [byteB]; omega), rfl⟩
    · go_wp2
      go_ret
      exact ⟨ret_eq (by simp [byteB]; omega), rfl⟩
  · go_wp2
    go_ret
    exact ⟨ret_eq (by simp [byteB]; omega), rfl⟩
theorem isByte_any (z : Int) (w : World) : Calls Try.prog 22 #[.int .i64 z] w fun e w' => e = .returned (.bool (byteB z)) ∧ w' = w := by
  go_enter Try.func22, Try.ntmps22
  by_cases h0 : 0 ≤ z
  · by_cases h1 : z < 256
    · have h2 : z ≤ 255 := by omega
      go_wp2
      go_ret
      exact ⟨ret_eq (by simp [byteB]; omega), rfl⟩
    · have h2 : ¬ z ≤ 255 := by omega
      go_wp2
      go_ret
      exact ⟨ret_eq (by simp [byteB]; omega), rfl⟩
  · go_wp2
    go_ret
    exact ⟨ret_eq (by simp [byteB]; omega), rfl⟩
theorem isSide_any (z : Int) (w : World) : Calls Try.prog 21 #[.int .i64 z] w fun e w' => e = .returned (.bool (sideB z)) ∧ w' = w := by
  go_enter Try.func21, Try.ntmps21
  by_cases h0 : 1 ≤ z
  · by_cases h1 : z ≤ 16
    · go_wp2
      go_ret
      exact ⟨ret_eq (by simp [sideB]; omega), rfl⟩
    · go_wp2
      go_ret
      exact ⟨ret_eq (by simp [sideB]; omega), rfl⟩
  · go_wp2
    go_ret
    exact ⟨ret_eq (by simp [sideB]; omega), rfl⟩

theorem mul_bd {R C : Int} (h1 : 1 ≤ R) (h2 : R ≤ 16) (h3 : 1 ≤ C) (h4 : C ≤ 16) : 1 ≤ R * C ∧ R * C ≤ 256 := by
  constructor
  · have := Int.mul_le_mul h1 h3 (by omega) (by omega)
    omega
  · have := Int.mul_le_mul h2 h4 (by omega) (by omega)
    omega

theorem all_next {zs : List Int} {k : Nat} {z : Int} (hz : zs[k]? = some z) (h : (zs.take k).all byteB = true) (hb : byteB z = true) : (zs.take (k + 1)).all byteB = true := by
  rw [List.take_add_one, hz, List.all_append, h]
  simp [hb]
theorem all_not {zs : List Int} {k : Nat} {z : Int} (hz : zs[k]? = some z) (hb : byteB z = false) : zs.all byteB = false := by
  rw [List.all_eq_false]
  exact ⟨z, List.mem_of_getElem? hz, by simp [hb]⟩

set_option maxRecDepth 100000 in
set_option maxHeartbeats 1000000 in
theorem spec_any (R C : Int) (a : Option Addr) (cap : Nat) (zs : List Int) (w : World) (hl : zs.length ≤ 1048576) (hr : Rd w a zs) :
    Calls Try.prog 6 #[mat R C a zs.length cap] w fun e w' => e = .returned (.bool (right R C zs)) ∧ Below w.heap.size w w' := by
  have al : ∀ o, Below w.heap.size w (w.alloc o) := fun o => below_alloc1 w o
  unfold mat
  go_enter Try.func6, Try.ntmps6
  by_cases h1 : R < 1
  · have E := mkHid (show right R C zs = false by simp [right]; omega)
    go_wp2
    go_ret
    exact ⟨ret_eq E.out.symm, al _⟩
  by_cases h2 : 16 < R
  · have E := mkHid (show right R C zs = false by simp [right]; omega)
    go_wp2
    go_ret
    exact ⟨ret_eq E.out.symm, al _⟩
  by_cases h3 : C < 1
  · have E := mkHid (show right R C zs = false by simp [right]; omega)
    go_wp2
    go_ret
    exact ⟨ret_eq E.out.symm, al _⟩
  by_cases h4 : 16 < C
  · have E := mkHid (show right R C zs = false by simp [right]; omega)
    go_wp2
    go_ret
    exact ⟨ret_eq E.out.symm, al _⟩
  obtain ⟨p1, p2⟩ := mul_bd (R := R) (C := C) (by omega) (by omega) (by omega) (by omega)
  by_cases h5 : (zs.length : Int) = R * C
  · have e : right R C zs = zs.all byteB := by
      unfold right
      rw [decide_eq_true (by refine ⟨⟨?_, ?_⟩, ⟨?_, ?_⟩, h5⟩ <;> omega)]
      rfl
    have E := mkHid e
    clear e
    go_wp2
    go_loopw [3] (fun i wr => ∃ k : Nat, k ≤ zs.length ∧ i = .int .i64 k ∧ Hid ((zs.take k).all byteB = true) ∧ wr = w.alloc (.cells #[.int .i64 R, .int .i64 C, .slice a zs.length cap] 27))
      (fun i _ => zs.length - (intOf i).toNat)
    case atStart => exact ⟨0, Nat.zero_le _, rfl, mkHid (by simp), by trivial⟩
    case round =>
      obtain ⟨k, hk, rfl, hall, rfl⟩ := hrel
      by_cases hlt : k < zs.length
      · obtain ⟨z, hz⟩ : ∃ z, zs[k]? = some z := ⟨_, List.getElem?_eq_getElem hlt⟩
        obtain ⟨b, off, rfl, hc⟩ := hr.alloc (.cells #[.int .i64 R, .int .i64 C, .slice a zs.length cap] 27) k z hz
        have hlti : (k : Int) < (zs.length : Int) := by omega
        go_wp2_with fail
        refine (l02_any z _).mono ?_
        rintro e w1 ⟨rfl, rfl⟩
        cases hbz : byteB z
        · have N := all_not hz hbz
          clear hall hz hc
          go_wp2
          go_ret
          exact ⟨ret_eq (by rw [E.out, N]), al _⟩
        · have N := mkHid (all_next hz hall.out hbz)
          clear hall hz hc
          go_wp2
          go_roundw
          case rel => exact ⟨k + 1, by omega, by go_num, N, by trivial⟩
          case measure => simp [intOf]; omega
      · obtain rfl : k = zs.length := by omega
        have e := hall.out
        rw [List.take_of_length_le (Nat.le_refl _)] at e
        clear hall
        go_wp2
        go_ret
        exact ⟨ret_eq (by rw [E.out, e]), al _⟩
  · have E := mkHid (show right R C zs = false by simp [right]; omega)
    go_wp2
    go_ret
    exact ⟨ret_eq E.out.symm, al _⟩

set_option maxRecDepth 100000 in
set_option maxHeartbeats 1000000 in
theorem impl_any (R C : Int) (a : Option Addr) (cap : Nat) (zs : List Int) (w : World) (hl : zs.length ≤ 1048576) (hr : Rd w a zs) :
    Calls Try.prog 8 #[mat R C a zs.length cap] w fun e w' => e = .returned (.bool (right R C zs)) ∧ Below w.heap.size w w' := by
  have al : ∀ o, Below w.heap.size w (w.alloc o) := fun o => below_alloc1 w o
  unfold mat
  go_enter Try.func8, Try.ntmps8
  go_wp2_with fail
  refine (isSide_any R _).mono ?_
  rintro e w1 ⟨rfl, rfl⟩
  cases hR : sideB R
  · have E := mkHid (show right R C zs = false by simp [sideB] at hR; simp [right]; omega)
    go_wp2
    go_ret
    exact ⟨ret_eq E.out.symm, al _⟩
  go_wp2_with fail
  refine (isSide_any C _).mono ?_
  rintro e w1 ⟨rfl, rfl⟩
  cases hC : sideB C
  · have E := mkHid (show right R C zs = false by simp [sideB] at hC; simp [right]; omega)
    go_wp2
    go_ret
    exact ⟨ret_eq E.out.symm, al _⟩
  simp [sideB] at hR hC
  obtain ⟨p1, p2⟩ := mul_bd hR.1 hR.2 hC.1 hC.2
  by_cases h5 : (zs.length : Int) = R * C
  · have e : right R C zs = zs.all byteB := by
      unfold right
      rw [decide_eq_true ⟨hR, hC, h5⟩]
      rfl
    have E := mkHid e
    clear e
    go_wp2
    go_loopw [29] (fun i wr => ∃ k : Nat, k ≤ zs.length ∧ i = .int .i64 k ∧ Hid ((zs.take k).all byteB = true) ∧ wr = w.alloc (.cells #[.int .i64 R, .int .i64 C, .slice a zs.length cap] 27))
      (fun i _ => zs.length - (intOf i).toNat)
    case atStart => exact ⟨0, Nat.zero_le _, rfl, mkHid (by simp), by trivial⟩
    case round =>
      obtain ⟨k, hk, rfl, hall, rfl⟩ := hrel
      by_cases hlt : k < zs.length
      · obtain ⟨z, hz⟩ : ∃ z, zs[k]? = some z := ⟨_, List.getElem?_eq_getElem hlt⟩
        obtain ⟨b, off, rfl, hc⟩ := hr.alloc (.cells #[.int .i64 R, .int .i64 C, .slice a zs.length cap] 27) k z hz
        have hlti : (k : Int) < (zs.length : Int) := by omega
        go_wp2_with fail
        refine (isByte_any z _).mono ?_
        rintro e w1 ⟨rfl, rfl⟩
        cases hbz : byteB z
        · have N := all_not hz hbz
          clear hall hz hc
          go_wp2
          go_ret
          exact ⟨ret_eq (by rw [E.out, N]), al _⟩
        · have N := mkHid (all_next hz hall.out hbz)
          clear hall hz hc
          go_wp2
          go_roundw
          case rel => exact ⟨k + 1, by omega, by go_num, N, by trivial⟩
          case measure => simp [intOf]; omega
      · obtain rfl : k = zs.length := by omega
        have e := hall.out
        rw [List.take_of_length_le (Nat.le_refl _)] at e
        clear hall
        go_wp2
        go_ret
        exact ⟨ret_eq (by rw [E.out, e]), al _⟩
  · have E := mkHid (show right R C zs = false by simp [right]; omega)
    go_wp2
    go_ret
    exact ⟨ret_eq E.out.symm, al _⟩

end Go.Proofs.Ytoklibbefjnlhab.right
