/-
  Fingers, plain; what spec.l06Of, l06Out, Finger, FingerMore and FingerRoll answer. Conditions: at most 1,048,576 bytes.
-/
import Derived.Test.YtbdkpcgmnppkgaaFing
namespace Go.Proofs.Ytbdkpcgmnppkgaa.fing
open Go.RowKit
open Go.Proofs.Ytbdkpcgmnppkgaa.base
open Go.PlainAid (bt get_bt bt_nonneg bt_le)
set_option linter.unusedVariables false

theorem red_xor (k x y : Nat) : red k (x ^^^ y) = red k x ^^^ red k y := by
  have hb : (x ^^^ y) / 2 ^ k % 2 = (x / 2 ^ k % 2 + y / 2 ^ k % 2) % 2 := by
    rw [Nat.xor_div_two_pow]
    generalize x / 2 ^ k = a
    generalize y / 2 ^ k = b
    have h := Nat.xor_mod_two_pow (a := a) (b := b) (n := 1)
    have ha : a % 2 = 0 ∨ a % 2 = 1 := by omega
    have hb : b % 2 = 0 ∨ b % 2 = 1 := by omega
    simp only [Nat.pow_one] at h
    rcases ha with ha | ha <;> rcases hb with hb | hb <;> rw [h, ha, hb] <;> rfl
  unfold red
  generalize 2147483657 * 2 ^ (k - 31) = C
  have hx : x / 2 ^ k % 2 = 0 ∨ x / 2 ^ k % 2 = 1 := by omega
  have hy : y / 2 ^ k % 2 = 0 ∨ y / 2 ^ k % 2 = 1 := by omega
  rw [hb]
  rcases hx with hx | hx <;> rcases hy with hy | hy <;> rw [hx, hy] <;> simp
  · rw [Nat.xor_assoc]
  · rw [Nat.xor_assoc, Nat.xor_comm y C, ← Nat.xor_assoc]
  · rw [Nat.xor_assoc, ← Nat.xor_assoc C y C, Nat.xor_comm C y, Nat.xor_assoc y C C, Nat.xor_self, Nat.xor_zero]
theorem reds_xor (x y : Nat) : ∀ j, reds (x ^^^ y) j = reds x j ^^^ reds y j := by
  intro j
  induction j with
  | zero => rfl
  | succ j ih => rw [reds, reds, reds, ih, red_xor]
theorem red_lt (k x : Nat) (h1 : 31 ≤ k) (h2 : k ≤ 38) (hx : x < 2 ^ (k + 1)) : red k x < 2 ^ k := by
  unfold red
  by_cases hb : x / 2 ^ k % 2 = 1
  · rw [if_pos hb]
    have hC : 2147483657 * 2 ^ (k - 31) / 2 ^ k = 1 := by
      have : k = 31 ∨ k = 32 ∨ k = 33 ∨ k = 34 ∨ k = 35 ∨ k = 36 ∨ k = 37 ∨ k = 38 := by omega
      rcases this with rfl | rfl | rfl | rfl | rfl | rfl | rfl | rfl <;> decide
    have hx1 : x / 2 ^ k = 1 := by
      have : x / 2 ^ k < 2 := by
        apply Nat.div_lt_of_lt_mul
        rw [Nat.pow_succ] at hx
        omega
      generalize x / 2 ^ k = a at this hb
      omega
    have h := Nat.xor_div_two_pow (a := x) (b := 2147483657 * 2 ^ (k - 31)) (n := k)
    rw [hC, hx1] at h
    simp at h
    exact h
  · rw [if_neg hb]
    have hp : 0 < 2 ^ k := Nat.two_pow_pos k
    have : x / 2 ^ k < 2 := by
      apply Nat.div_lt_of_lt_mul
      rw [Nat.pow_succ] at hx
      omega
    have h0 : x / 2 ^ k = 0 := by
      generalize x / 2 ^ k = a at this hb
      omega
    rcases Nat.div_eq_zero_iff.1 h0 with h | h
    · omega
    · exact h
theorem reds_lt (x : Nat) (hx : x < 2 ^ 39) : ∀ j, j ≤ 8 → reds x j < 2 ^ (39 - j) := by
  intro j
  induction j with
  | zero => intro _; exact hx
  | succ j ih =>
    intro hj
    rw [reds]
    have := red_lt (38 - j) (reds x j) (by omega) (by omega) (by have h := ih (by omega); rwa [show 38 - j + 1 = 39 - j by omega])
    rwa [show 38 - j = 39 - (j + 1) by omega] at this ⊢
theorem shift_lt (f b : Nat) (hf : f < 2147483648) (hb : b < 256) : shift f b < 2147483648 := by
  have := reds_lt (f * 256 ^^^ b) (xor_lt (n := 39) (by omega) (by omega)) 8 (by omega)
  exact this
theorem shift_xor (f g b c : Nat) : shift (f ^^^ g) (b ^^^ c) = shift f b ^^^ shift g c := by
  unfold shift
  have e : (f ^^^ g) * 256 = (f * 256) ^^^ (g * 256) := by
    have h := Nat.shiftLeft_xor_distrib (a := f) (b := g) (i := 8)
    rw [Nat.shiftLeft_eq, Nat.shiftLeft_eq, Nat.shiftLeft_eq] at h
    exact h
  rw [e, ← reds_xor]
  congr 1
  rw [Nat.xor_assoc, Nat.xor_assoc, ← Nat.xor_assoc (g * 256) b c, Nat.xor_comm (g * 256) b, Nat.xor_assoc b]

/-- the finger of bytes, from a finger on -/
def fold (f : Nat) (l : List UInt8) : Nat := l.foldl (fun f c => shift f c.toNat) f
def finger (l : List UInt8) : Nat := fold 0 l
theorem fold_lt : ∀ (l : List UInt8) (f : Nat), f < 2147483648 → fold f l < 2147483648 := by
  intro l
  induction l with
  | nil => intro f h; exact h
  | cons c l ih => intro f h; exact ih _ (shift_lt f c.toNat h c.toNat_lt)
theorem finger_lt (l : List UInt8) : finger l < 2147483648 := fold_lt l 0 (by omega)
theorem fold_snoc (f : Nat) (l : List UInt8) (c : UInt8) : fold f (l ++ [c]) = shift (fold f l) c.toNat := by simp [fold]
/-- so many bytes 0 behind -/
def zeros (f : Nat) : Nat → Nat
  | 0 => f
  | n + 1 => shift (zeros f n) 0
theorem zeros_succ (f n : Nat) : zeros f (n + 1) = zeros (shift f 0) n := by
  induction n with
  | zero => rfl
  | succ n ih => rw [zeros, ih, zeros]
theorem zeros_lt (f n : Nat) (h : f < 2147483648) : zeros f n < 2147483648 := by
  induction n with
  | zero => exact h
  | succ n ih => exact shift_lt _ 0 ih (by omega)
theorem fold_split : ∀ (l : List UInt8) (f g : Nat), fold (f ^^^ g) l = zeros f l.length ^^^ fold g l := by
  intro l
  induction l with
  | nil => intro f g; rfl
  | cons c l ih =>
    intro f g
    have e : shift (f ^^^ g) c.toNat = shift f 0 ^^^ shift g c.toNat := by
      have := shift_xor f g 0 c.toNat
      rwa [Nat.zero_xor] at this
    show fold (shift (f ^^^ g) c.toNat) l = _
    rw [e, ih, List.length_cons, zeros_succ]
    rfl
theorem shift_zero (b : Nat) (hb : b < 256) : shift 0 b = b := by
  unfold shift
  rw [Nat.zero_mul, Nat.zero_xor]
  have h : ∀ j, j ≤ 8 → reds b j = b := by
    intro j
    induction j with
    | zero => intro _; rfl
    | succ j ih =>
      intro hj
      rw [reds, ih (by omega)]
      unfold red
      have h8 : b < 2 ^ (38 - j) := Nat.lt_of_lt_of_le hb (show 2 ^ 8 ≤ 2 ^ (38 - j) from Nat.pow_le_pow_right (by decide) (by omega))
      rw [Nat.div_eq_of_lt h8]
      simp
  exact h 8 (by omega)
/-- what the first byte of a window is worth -/
def outv (b : Nat) : Nat := zeros b 15
/-- a window rolls on -/
theorem roll (c d : UInt8) (l : List UInt8) (hl : l.length = 15) : shift (finger (c :: l) ^^^ outv c.toNat) d.toNat = finger (l ++ [d]) := by
  have e : finger (c :: l) = outv c.toNat ^^^ finger l := by
    show fold (shift 0 c.toNat) l = _
    rw [shift_zero _ c.toNat_lt]
    have h := fold_split l c.toNat 0
    rw [Nat.xor_zero, hl] at h
    exact h
  rw [e, Nat.xor_comm (outv c.toNat) (finger l), Nat.xor_assoc, Nat.xor_self, Nat.xor_zero]
  exact (fold_snoc 0 l d).symm

def fingB (f : Int) : Bool := decide (0 ≤ f ∧ f < 2147483648)
def byteB (b : Int) : Bool := decide (0 ≤ b ∧ b ≤ 255)
theorem isFing_any (f : Int) (w : World) : Calls Try.prog 42 #[.int .i64 f] w fun e w' => e = .returned (.bool (fingB f)) ∧ w' = w := by
  go_enter Try.func42, Try.ntmps42
  by_cases h0 : 0 ≤ f <;> by_cases h1 : f < 2147483648
  all_goals
    go_wp2
    go_ret
    exact ⟨ret_eq (by simp [fingB]; omega), rfl⟩
theorem isByte_any (b : Int) (w : World) : Calls Try.prog 43 #[.int .i64 b] w fun e w' => e = .returned (.bool (byteB b)) ∧ w' = w := by
  go_enter Try.func43, Try.ntmps43
  by_cases h0 : 0 ≤ b <;> by_cases h1 : b ≤ 255
  all_goals
    go_wp2
    go_ret
    exact ⟨ret_eq (by simp [byteB]; omega), rfl⟩

set_option maxRecDepth 100000 in
theorem of_any (s : ByteArray) (w : World) (hs : s.size ≤ 1048576) : Calls Try.prog 34 #[.string s] w fun e w' => e = .returned (.int .i64 (finger s.data.toList : Nat)) ∧ w' = w := by
  have hsi : (s.size : Int) ≤ 1048576 := by omega
  go_enter Try.func34, Try.ntmps34
  go_wp2
  go_loopw [3, 4] (fun v i wr => ∃ k : Nat, k ≤ s.size ∧ i = .int .i64 k ∧ v = .int .i64 (finger (s.data.toList.take k) : Nat) ∧ wr = w)
    (fun _ i _ => s.size - (intOf i).toNat)
  case atStart => exact ⟨0, Nat.zero_le _, rfl, rfl, rfl⟩
  case round =>
    obtain ⟨k, hk, rfl, rfl, rfl⟩ := hrel
    by_cases hlt : k < s.size
    · have hlti : (k : Int) < (s.size : Int) := by omega
      have hf := finger_lt (s.data.toList.take k)
      have hcb : ((s[k]'hlt).toNat : Int) ≤ 255 := by have := (s[k]'hlt).toNat_lt; omega
      obtain ⟨N, hN⟩ : ∃ N, N = finger (s.data.toList.take (k + 1)) := ⟨_, rfl⟩
      have HN := mkHid hN
      have HS : Hid (Calls Try.prog 44 #[.int .i64 (finger (s.data.toList.take k) : Nat), .int .i64 ((s[k]'hlt).toNat : Int)] wr fun e w' => e = .returned (.int .i64 (N : Int)) ∧ w' = wr) := mkHid (by
        have h := shift_any (finger (s.data.toList.take k)) (s[k]'hlt).toNat wr hf (s[k]'hlt).toNat_lt
        rw [show shift (finger (s.data.toList.take k)) (s[k]'hlt).toNat = N by rw [hN, take_snoc s k hlt]; exact (fold_snoc 0 _ _).symm] at h
        exact h)
      clear hN
      generalize finger (s.data.toList.take k) = f at *
      go_wp2_with fail
      refine HS.out.mono ?_
      rintro e w1 ⟨rfl, rfl⟩
      rw [HN.out]
      clear HS HN
      go_wp2
      go_roundw
      case rel => exact ⟨k + 1, by omega, by go_num, rfl, by trivial⟩
      case measure => simp [intOf]; omega
    · have e : s.data.toList.take k = s.data.toList := List.take_of_length_le (by simp; omega)
      rw [e]
      have hli : (s.size : Int) ≤ (k : Int) := by omega
      go_wp2
      go_ret
      exact ⟨rfl, rfl⟩

set_option maxRecDepth 100000 in
theorem out_any (b : Nat) (w : World) (hb : b < 256) : Calls Try.prog 45 #[.int .i64 b] w fun e w' => e = .returned (.int .i64 (outv b : Nat)) ∧ w' = w := by
  go_enter Try.func45, Try.ntmps45
  go_wp2
  go_loopw [3, 4] (fun v i wr => ∃ k : Nat, k ≤ 15 ∧ i = .int .i64 (k + 1) ∧ v = .int .i64 (zeros b k : Nat) ∧ wr = w)
    (fun _ i _ => 16 - (intOf i).toNat)
  case atStart => exact ⟨0, by omega, rfl, rfl, rfl⟩
  case round =>
    obtain ⟨k, hk, rfl, rfl, rfl⟩ := hrel
    by_cases hlt : k < 15
    · have hlti : (k : Int) < 15 := by omega
      have HS : Hid (Calls Try.prog 44 #[.int .i64 (zeros b k : Nat), .int .i64 0] wr fun e w' => e = .returned (.int .i64 (zeros b (k + 1) : Nat)) ∧ w' = wr) := mkHid (shift_any (zeros b k) 0 wr (zeros_lt b k (by omega)) (by omega))
      generalize zeros b k = f at *
      go_wp2_with fail
      refine HS.out.mono ?_
      rintro e w1 ⟨rfl, rfl⟩
      clear HS
      go_wp2
      go_roundw
      case rel => exact ⟨k + 1, by omega, by go_num, rfl, by trivial⟩
      case measure => simp [intOf]; omega
    · obtain rfl : k = 15 := by omega
      go_wp2
      go_ret
      exact ⟨rfl, rfl⟩

/-- what Finger, FingerMore and FingerRoll tell -/
def fingerT (s : ByteArray) : Nat := if 20000 < s.size then 0 else finger s.data.toList
def moreT (f b : Int) : Nat := if fingB f = true ∧ byteB b = true then shift f.toNat b.toNat else 0
def rollT (f o i : Int) : Nat := if fingB f = true ∧ byteB o = true ∧ byteB i = true then shift (f.toNat ^^^ outv o.toNat) i.toNat else 0

set_option maxRecDepth 100000 in
theorem finger_any (s : ByteArray) (w : World) (hs : s.size ≤ 1048576) : Calls Try.prog 13 #[.string s] w fun e w' => e = .returned (.int .i64 (fingerT s : Nat)) ∧ w' = w := by
  go_enter Try.func13, Try.ntmps13
  by_cases h : 20000 < (s.size : Int)
  · have E := mkHid (show fingerT s = 0 by unfold fingerT; rw [if_pos (by omega)])
    go_wp2
    go_ret
    exact ⟨ret_eq (by rw [E.out]; rfl), rfl⟩
  · have E := mkHid (show fingerT s = finger s.data.toList by unfold fingerT; rw [if_neg (by omega)])
    go_wp2_with fail
    refine (of_any s _ hs).mono ?_
    rintro e w1 ⟨rfl, rfl⟩
    go_wp2
    go_ret
    exact ⟨ret_eq (by rw [E.out]; rfl), rfl⟩

theorem fing_nat {f : Int} (h : fingB f = true) : ∃ n : Nat, f = (n : Int) ∧ n < 2147483648 := by
  simp [fingB] at h
  exact ⟨f.toNat, by omega, by omega⟩
theorem byte_nat {b : Int} (h : byteB b = true) : ∃ n : Nat, b = (n : Int) ∧ n < 256 := by
  simp [byteB] at h
  exact ⟨b.toNat, by omega, by omega⟩

set_option maxRecDepth 100000 in
theorem more_any (f b : Int) (w : World) : Calls Try.prog 24 #[.int .i64 f, .int .i64 b] w fun e w' => e = .returned (.int .i64 (moreT f b : Nat)) ∧ w' = w := by
  go_enter Try.func24, Try.ntmps24
  go_wp2_with fail
  refine (isFing_any f _).mono ?_
  rintro e w1 ⟨rfl, rfl⟩
  cases hf : fingB f
  · have E := mkHid (show moreT f b = 0 by unfold moreT; rw [hf]; rfl)
    go_wp2
    go_ret
    exact ⟨ret_eq (by rw [E.out]; rfl), rfl⟩
  · go_wp2_with fail
    refine (isByte_any b _).mono ?_
    rintro e w1 ⟨rfl, rfl⟩
    cases hb : byteB b
    · have E := mkHid (show moreT f b = 0 by unfold moreT; rw [hb]; simp)
      go_wp2
      go_ret
      exact ⟨ret_eq (by rw [E.out]; rfl), rfl⟩
    · obtain ⟨F, rfl, hF⟩ := fing_nat hf
      obtain ⟨B, rfl, hB⟩ := byte_nat hb
      have E := mkHid (show moreT F B = shift F B by unfold moreT; rw [if_pos ⟨hf, hb⟩]; simp)
      have HS := mkHid (fun wx => shift_any F B wx hF hB)
      clear hf hb
      go_wp2_with fail
      refine (HS.out _).mono ?_
      rintro e w1 ⟨rfl, rfl⟩
      rw [← E.out]
      clear HS
      go_wp2
      go_ret
      exact ⟨rfl, rfl⟩

set_option maxRecDepth 100000 in
theorem roll_any (f o i : Int) (w : World) : Calls Try.prog 25 #[.int .i64 f, .int .i64 o, .int .i64 i] w fun e w' => e = .returned (.int .i64 (rollT f o i : Nat)) ∧ w' = w := by
  go_enter Try.func25, Try.ntmps25
  go_wp2_with fail
  refine (isFing_any f _).mono ?_
  rintro e w1 ⟨rfl, rfl⟩
  cases hf : fingB f
  · have E := mkHid (show rollT f o i = 0 by unfold rollT; rw [hf]; rfl)
    go_wp2
    go_ret
    exact ⟨ret_eq (by rw [E.out]; rfl), rfl⟩
  · go_wp2_with fail
    refine (isByte_any o _).mono ?_
    rintro e w1 ⟨rfl, rfl⟩
    cases hb : byteB o
    · have E := mkHid (show rollT f o i = 0 by unfold rollT; rw [hb]; simp)
      go_wp2
      go_ret
      exact ⟨ret_eq (by rw [E.out]; rfl), rfl⟩
    · go_wp2_with fail
      refine (isByte_any i _).mono ?_
      rintro e w1 ⟨rfl, rfl⟩
      cases hc : byteB i
      · have E := mkHid (show rollT f o i = 0 by unfold rollT; rw [hc]; simp)
        go_wp2
        go_ret
        exact ⟨ret_eq (by rw [E.out]; rfl), rfl⟩
      · obtain ⟨F, rfl, hF⟩ := fing_nat hf
        obtain ⟨B, rfl, hB⟩ := byte_nat hb
        obtain ⟨C, rfl, hC⟩ := byte_nat hc
        have E := mkHid (show rollT F B C = shift (F ^^^ outv B) C by unfold rollT; rw [if_pos ⟨hf, hb, hc⟩]; simp)
        have hov : outv B < 2147483648 := zeros_lt B 15 (by omega)
        have hx : bits .xor .i64 (F : Int) (outv B : Int) = ((F ^^^ outv B : Nat) : Int) := xor_nat F (outv B) (by omega) (by omega)
        have hxl := xor_lt (n := 31) (show F < 2 ^ 31 by omega) (show outv B < 2 ^ 31 by omega)
        have HS := mkHid (fun wx => shift_any (F ^^^ outv B) C wx hxl hC)
        clear hf hb hc
        go_wp2_with fail
        refine (out_any B _ hB).mono ?_
        rintro e w1 ⟨rfl, rfl⟩
        go_wp2_with fail
        refine (HS.out _).mono ?_
        rintro e w1 ⟨rfl, rfl⟩
        rw [← E.out]
        clear HS
        go_wp2
        go_ret
        exact ⟨rfl, rfl⟩
end Go.Proofs.Ytbdkpcgmnppkgaa.fing
