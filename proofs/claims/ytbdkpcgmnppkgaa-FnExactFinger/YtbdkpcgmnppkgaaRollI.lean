/-
  What impl.Finger, FingerMore and FingerRoll answer. Conditions: at most 1,048,576 bytes; numbers that fit.
-/
import Derived.Test.YtbdkpcgmnppkgaaPushI
import Derived.Test.YtbdkpcgmnppkgaaCutAtS
namespace Go.Proofs.Ytbdkpcgmnppkgaa.fingI
open Go.RowKit
open Go.Proofs.Ytbdkpcgmnppkgaa.base Go.Proofs.Ytbdkpcgmnppkgaa.fing
set_option linter.unusedVariables false

set_option maxRecDepth 100000 in
theorem finger_any : IFinger := by
  intro s w hs
  have hsi : (s.size : Int) ≤ 1048576 := by omega
  refine Calls.mono (R := fun e w' => e = .returned (.int .i64 (fingerT s : Nat)) ∧ w' = w) ?_ (fun e w' h => ⟨h.1, by rw [h.2]; exact Below.refl _ _⟩)
  go_enter Try.func12, Try.ntmps12
  by_cases h1 : 20000 < (s.size : Int)
  · have E := mkHid (show fingerT s = 0 by unfold fingerT; rw [if_pos (by omega)])
    go_wp2
    go_ret
    exact ⟨ret_eq (by rw [E.out]; rfl), rfl⟩
  · have E := mkHid (show fingerT s = finger s.data.toList by unfold fingerT; rw [if_neg (by omega)])
    have h1' : (s.size : Int) ≤ 20000 := by omega
    go_wp2
    go_loopw [3, 10] (fun v i wr => ∃ k : Nat, k ≤ s.size ∧ i = .int .i64 k ∧ v = .int .i64 (finger (s.data.toList.take k) : Nat) ∧ wr = w)
      (fun _ i _ => s.size - (intOf i).toNat)
    case atStart => exact ⟨0, Nat.zero_le _, rfl, rfl, rfl⟩
    case round =>
      obtain ⟨k, hk, rfl, rfl, rfl⟩ := hrel
      by_cases hlt : k < s.size
      · have hlti : (k : Int) < (s.size : Int) := by omega
        have hf := finger_lt (s.data.toList.take k)
        have hcb : ((s[k]'hlt).toNat : Int) ≤ 255 := by have := (s[k]'hlt).toNat_lt; omega
        obtain ⟨N, hN⟩ : ∃ N, N = finger (s.data.toList.take (k + 1)) := ⟨_, rfl⟩
        have HN := mkHid hN
        have HS : Hid (Calls Try.prog 33 #[.int .i64 (finger (s.data.toList.take k) : Nat), .int .i64 ((s[k]'hlt).toNat : Int)] wr fun e w' => e = .returned (.int .i64 (N : Int)) ∧ w' = wr) := mkHid (by
          have h := push_any (finger (s.data.toList.take k)) (s[k]'hlt).toNat wr hf (s[k]'hlt).toNat_lt
          rw [show shift (finger (s.data.toList.take k)) (s[k]'hlt).toNat = N by rw [hN, take_snoc s k hlt]; exact (fold_snoc 0 _ _).symm] at h
          exact h)
        clear hN
        generalize finger (s.data.toList.take k) = f at *
        go_wp2_with fail
        refine HS.out.mono ?_
        rintro e w1 ⟨rfl, rfl⟩
        rw [HN.out]
        clear HS HN
        go_wp2
        go_roundw
        case rel => exact ⟨k + 1, by omega, by go_num, rfl, by trivial⟩
        case measure => simp [intOf]; omega
      · have e : s.data.toList.take k = s.data.toList := List.take_of_length_le (by simp; omega)
        rw [e]
        have hli : (s.size : Int) ≤ (k : Int) := by omega
        go_wp2
        go_ret
        exact ⟨ret_eq (by rw [E.out]; rfl), rfl⟩

set_option maxRecDepth 100000 in
theorem more_any : IMoreF := by
  intro f b w _ _ _ _
  refine Calls.mono (R := fun e w' => e = .returned (.int .i64 (moreT f b : Nat)) ∧ w' = w) ?_ (fun e w' h => ⟨h.1, by rw [h.2]; exact Below.refl _ _⟩)
  go_enter Try.func14, Try.ntmps14
  go_wp2_with fail
  refine (isFinger_any f _).mono ?_
  rintro e w1 ⟨rfl, rfl⟩
  cases hf : fingB f
  · have E := mkHid (show moreT f b = 0 by unfold moreT; rw [hf]; simp)
    go_wp2
    go_ret
    exact ⟨ret_eq (by rw [E.out]; rfl), rfl⟩
  · go_wp2_with fail
    refine (isByte_any b _).mono ?_
    rintro e w1 ⟨rfl, rfl⟩
    cases hb : byteB b
    · have E := mkHid (show moreT f b = 0 by unfold moreT; rw [hb]; simp)
      go_wp2
      go_ret
      exact ⟨ret_eq (by rw [E.out]; rfl), rfl⟩
    · obtain ⟨F, rfl, hF⟩ := fing_nat hf
      obtain ⟨B, rfl, hB⟩ := byte_nat hb
      have E := mkHid (show moreT F B = shift F B by unfold moreT; rw [if_pos ⟨hf, hb⟩]; simp)
      clear hf hb
      go_wp2_with fail
      refine (push_any F B _ hF hB).mono ?_
      rintro e w1 ⟨rfl, rfl⟩
      rw [← E.out]
      go_wp2
      go_ret
      exact ⟨rfl, rfl⟩

set_option maxRecDepth 100000 in
theorem roll_same (f o i : Int) (w : World) : Calls Try.prog 15 #[.int .i64 f, .int .i64 o, .int .i64 i] w fun e w' => e = .returned (.int .i64 (rollT f o i : Nat)) ∧ w' = w := by
  go_enter Try.func15, Try.ntmps15
  go_wp2_with fail
  refine (isFinger_any f _).mono ?_
  rintro e w1 ⟨rfl, rfl⟩
  cases hf : fingB f
  · have E := mkHid (show rollT f o i = 0 by unfold rollT; rw [hf]; simp)
    go_wp2
    go_ret
    exact ⟨ret_eq (by rw [E.out]; rfl), rfl⟩
  · go_wp2_with fail
    refine (isByte_any o _).mono ?_
    rintro e w1 ⟨rfl, rfl⟩
    cases hb : byteB o
    · have E := mkHid (show rollT f o i = 0 by unfold rollT; rw [hb]; simp)
      go_wp2
      go_ret
      exact ⟨ret_eq (by rw [E.out]; rfl), rfl⟩
    · go_wp2_with fail
      refine (isByte_any i _).mono ?_
      rintro e w1 ⟨rfl, rfl⟩
      cases hc : byteB i
      · have E := mkHid (show rollT f o i = 0 by unfold rollT; rw [hc]; simp)
        go_wp2
        go_ret
        exact ⟨ret_eq (by rw [E.out]; rfl), rfl⟩
      · obtain ⟨F, rfl, hF⟩ := fing_nat hf
        obtain ⟨B, rfl, hB⟩ := byte_nat hb
        obtain ⟨C, rfl, hC⟩ := byte_nat hc
        have E := mkHid (show rollT F B C = shift (F ^^^ outv B) C by unfold rollT; rw [if_pos ⟨hf, hb, hc⟩]; simp)
        have hov : outv B < 2147483648 := zeros_lt B 15 (by omega)
        have hx : bits .xor .i64 (F : Int) (outv B : Int) = ((F ^^^ outv B : Nat) : Int) := xor_nat F (outv B) (by omega) (by omega)
        have hxl := xor_lt (n := 31) (show F < 2 ^ 31 by omega) (show outv B < 2 ^ 31 by omega)
        have HS := mkHid (fun wx => push_any (F ^^^ outv B) C wx hxl hC)
        clear hf hb hc
        go_wp2
        go_loopw [7, 22] (fun v i wr => ∃ k : Nat, k ≤ 15 ∧ i = .int .i64 k ∧ v = .int .i64 (zeros B k : Nat) ∧ wr = w1)
          (fun _ i _ => 15 - (intOf i).toNat)
        case atStart => exact ⟨0, by omega, rfl, rfl, rfl⟩
        case round =>
          obtain ⟨k, hk, rfl, rfl, rfl⟩ := hrel
          by_cases hlt : k < 15
          · have hlti : (k : Int) < 15 := by omega
            have HP : Hid (Calls Try.prog 33 #[.int .i64 (zeros B k : Nat), .int .i64 0] wr fun e w' => e = .returned (.int .i64 (zeros B (k + 1) : Nat)) ∧ w' = wr) := mkHid (push_any (zeros B k) 0 wr (zeros_lt B k (by omega)) (by omega))
            clear HS hx hxl hov E
            generalize zeros B k = z at *
            go_wp2_with fail
            refine HP.out.mono ?_
            rintro e w1 ⟨rfl, rfl⟩
            clear HP
            go_wp2
            go_roundw
            case rel => exact ⟨k + 1, by omega, by go_num, rfl, by trivial⟩
            case measure => simp [intOf]; omega
          · obtain rfl : k = 15 := by omega
            have e15 : zeros B 15 = outv B := rfl
            rw [e15]
            clear e15
            generalize outv B = ov at *
            go_wp2_with fail
            refine (HS.out _).mono ?_
            rintro e w1 ⟨rfl, rfl⟩
            rw [← E.out]
            clear HS
            go_wp2
            go_ret
            exact ⟨rfl, rfl⟩
theorem roll_any : IRoll := fun f o i w _ _ _ _ _ _ => (roll_same f o i w).mono (fun e w' h => ⟨h.1, by rw [h.2]; exact Below.refl _ _⟩)
end Go.Proofs.Ytbdkpcgmnppkgaa.fingI
