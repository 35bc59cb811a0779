/-
  The first number of a short text's digest, reckoned with natural numbers; texts of one digest have one such number. No condition.
  The first number of the digest of a text of at most three bytes; those of the decimal numbers below 300 are unlike each other. No condition.
  Digests of the decimal numbers below 300 are unlike each other. No condition.
-/
import Derived.Test.YtmoojhnblakdhaaGreatZShaB
import Derived.Laws.Bits64
import Derived.PlainAid
namespace Go.Proofs.YtmoojhnblakdhaaGreat.shn
open Go.RowKit Go.Joins
open Go.Proofs.YtmoojhnblakdhaaGreat.base Go.Proofs.YtmoojhnblakdhaaGreat.word Go.Proofs.YtmoojhnblakdhaaGreat.ints Go.Proofs.YtmoojhnblakdhaaGreat.sha
set_option linter.unusedVariables false
set_option linter.unusedSimpArgs false

theorem wrap32 (n : Int) : IntKind.u32.wrap n = n % 4294967296 := by simp [IntKind.wrap, IntKind.bits, IntKind.signed]
theorem ofI (a : Nat) (ha : a < 4294967296) : (BitVec.ofInt 32 (a : Int)).toNat = a := by
  rw [BitVec.ofInt_natCast, BitVec.toNat_ofNat]
  exact Nat.mod_eq_of_lt (by omega)
def lt32 (a : Nat) : Prop := a < 4294967296
theorem X_is {a b : Nat} (ha : lt32 a) (hb : lt32 b) : X (a : Int) (b : Int) = ((a ^^^ b : Nat) : Int) ∧ lt32 (a ^^^ b) := by
  unfold lt32 at *
  have hx : a ^^^ b < 2 ^ 32 := Nat.xor_lt_two_pow (by omega) (by omega)
  refine ⟨?_, by omega⟩
  show IntKind.u32.wrap ((BitVec.ofInt 32 (a : Int) ^^^ BitVec.ofInt 32 (b : Int)).toNat : Int) = _
  rw [BitVec.toNat_xor, ofI a ha, ofI b hb, wrap32]
  omega
theorem N_is {a b : Nat} (ha : lt32 a) (hb : lt32 b) : N (a : Int) (b : Int) = ((a &&& b : Nat) : Int) ∧ lt32 (a &&& b) := by
  unfold lt32 at *
  have hx : a &&& b < 2 ^ 32 := Nat.and_lt_two_pow _ (by omega)
  refine ⟨?_, by omega⟩
  show IntKind.u32.wrap ((BitVec.ofInt 32 (a : Int) &&& BitVec.ofInt 32 (b : Int)).toNat : Int) = _
  rw [BitVec.toNat_and, ofI a ha, ofI b hb, wrap32]
  omega
theorem O_is {a b : Nat} (ha : lt32 a) (hb : lt32 b) : O (a : Int) (b : Int) = ((a ||| b : Nat) : Int) ∧ lt32 (a ||| b) := by
  unfold lt32 at *
  have hx : a ||| b < 2 ^ 32 := Nat.or_lt_two_pow (by omega) (by omega)
  refine ⟨?_, by omega⟩
  show IntKind.u32.wrap ((BitVec.ofInt 32 (a : Int) ||| BitVec.ofInt 32 (b : Int)).toNat : Int) = _
  rw [BitVec.toNat_or, ofI a ha, ofI b hb, wrap32]
  omega
def addN (a b : Nat) : Nat := (a + b) % 4294967296
theorem A_is (a b : Nat) : A (a : Int) (b : Int) = ((addN a b : Nat) : Int) ∧ lt32 (addN a b) := by
  unfold A addN lt32
  rw [wrap32]
  omega
def rotN (x k j : Nat) : Nat := (x / k) ||| (x * j % 4294967296)
theorem rot_is (x : Nat) (k : Int) (d m : Nat) (hx : lt32 x) (hd : 2 ^ k.toNat = (d : Int)) (hm : 2 ^ (32 - k).toNat = (m : Int)) : rot (x : Int) k = ((rotN x d m : Nat) : Int) ∧ lt32 (rotN x d m) := by
  unfold rot M rotN
  rw [hd, hm, wrap32]
  have e1 : (x : Int) / (d : Int) = ((x / d : Nat) : Int) := by rw [Int.natCast_ediv]
  have e2 : (x : Int) * (m : Int) % 4294967296 = ((x * m % 4294967296 : Nat) : Int) := by rw [Int.natCast_emod, Int.natCast_mul]; rfl
  rw [e1, e2]
  exact O_is (Nat.lt_of_le_of_lt (Nat.div_le_self _ _) hx) (Nat.mod_lt _ (by omega))
def s0N (x : Nat) : Nat := (rotN x 128 33554432 ^^^ rotN x 262144 16384) ^^^ (x / 8)
def s1N (x : Nat) : Nat := (rotN x 131072 32768 ^^^ rotN x 524288 8192) ^^^ (x / 1024)
def S1N (x : Nat) : Nat := (rotN x 64 67108864 ^^^ rotN x 2048 2097152) ^^^ rotN x 33554432 128
def S0N (x : Nat) : Nat := (rotN x 4 1073741824 ^^^ rotN x 8192 524288) ^^^ rotN x 4194304 1024
def chN (e f g : Nat) : Nat := (e &&& f) ^^^ ((4294967295 ^^^ e) &&& g)
def majN (a b c : Nat) : Nat := ((a &&& b) ^^^ (a &&& c)) ^^^ (b &&& c)
theorem s0_is {x : Nat} (hx : lt32 x) : s0 (x : Int) = ((s0N x : Nat) : Int) ∧ lt32 (s0N x) := by
  unfold s0 s0N
  obtain ⟨e1, l1⟩ := rot_is x 7 128 33554432 hx (by decide) (by decide)
  obtain ⟨e2, l2⟩ := rot_is x 18 262144 16384 hx (by decide) (by decide)
  obtain ⟨e3, l3⟩ := X_is l1 l2
  have e4 : (x : Int) / 8 = ((x / 8 : Nat) : Int) := by omega
  rw [e1, e2, e3, e4]
  exact X_is l3 (Nat.lt_of_le_of_lt (Nat.div_le_self _ _) hx)
theorem s1_is {x : Nat} (hx : lt32 x) : s1 (x : Int) = ((s1N x : Nat) : Int) ∧ lt32 (s1N x) := by
  unfold s1 s1N
  obtain ⟨e1, l1⟩ := rot_is x 17 131072 32768 hx (by decide) (by decide)
  obtain ⟨e2, l2⟩ := rot_is x 19 524288 8192 hx (by decide) (by decide)
  obtain ⟨e3, l3⟩ := X_is l1 l2
  have e4 : (x : Int) / 1024 = ((x / 1024 : Nat) : Int) := by omega
  rw [e1, e2, e3, e4]
  exact X_is l3 (Nat.lt_of_le_of_lt (Nat.div_le_self _ _) hx)
theorem S1_is {x : Nat} (hx : lt32 x) : S1 (x : Int) = ((S1N x : Nat) : Int) ∧ lt32 (S1N x) := by
  unfold S1 S1N
  obtain ⟨e1, l1⟩ := rot_is x 6 64 67108864 hx (by decide) (by decide)
  obtain ⟨e2, l2⟩ := rot_is x 11 2048 2097152 hx (by decide) (by decide)
  obtain ⟨e5, l5⟩ := rot_is x 25 33554432 128 hx (by decide) (by decide)
  obtain ⟨e3, l3⟩ := X_is l1 l2
  rw [e1, e2, e3, e5]
  exact X_is l3 l5
theorem S0_is {x : Nat} (hx : lt32 x) : S0 (x : Int) = ((S0N x : Nat) : Int) ∧ lt32 (S0N x) := by
  unfold S0 S0N
  obtain ⟨e1, l1⟩ := rot_is x 2 4 1073741824 hx (by decide) (by decide)
  obtain ⟨e2, l2⟩ := rot_is x 13 8192 524288 hx (by decide) (by decide)
  obtain ⟨e5, l5⟩ := rot_is x 22 4194304 1024 hx (by decide) (by decide)
  obtain ⟨e3, l3⟩ := X_is l1 l2
  rw [e1, e2, e3, e5]
  exact X_is l3 l5
theorem ch_is {e f g : Nat} (he : lt32 e) (hf : lt32 f) (hg : lt32 g) : ch (e : Int) (f : Int) (g : Int) = ((chN e f g : Nat) : Int) ∧ lt32 (chN e f g) := by
  unfold ch chN
  obtain ⟨e1, l1⟩ := N_is he hf
  obtain ⟨e2, l2⟩ := X_is (a := 4294967295) (by unfold lt32; omega) he
  obtain ⟨e3, l3⟩ := N_is l2 hg
  have e4 : X 4294967295 (e : Int) = ((4294967295 ^^^ e : Nat) : Int) := e2
  rw [e1, e4, e3]
  exact X_is l1 l3
theorem maj_is {a b c : Nat} (ha : lt32 a) (hb : lt32 b) (hc : lt32 c) : maj (a : Int) (b : Int) (c : Int) = ((majN a b c : Nat) : Int) ∧ lt32 (majN a b c) := by
  unfold maj majN
  obtain ⟨e1, l1⟩ := N_is ha hb
  obtain ⟨e2, l2⟩ := N_is ha hc
  obtain ⟨e3, l3⟩ := N_is hb hc
  obtain ⟨e4, l4⟩ := X_is l1 l2
  rw [e1, e2, e3, e4]
  exact X_is l4 l3
/-- a number is reckoned ahead of what is done with it -/
def now (n : Nat) (k : Nat → Nat) : Nat := match n with
  | 0 => k 0
  | m + 1 => k (m + 1)
theorem now_is (n : Nat) (k : Nat → Nat) : now n k = k n := by cases n <;> rfl
/-- the rounds from one on, of which the next sixteen words are at hand -/
def go : List Nat → Nat → Nat → Nat → Nat → Nat → Nat → Nat → Nat → Nat → Nat → Nat → Nat → Nat → Nat → Nat → Nat → Nat → Nat → Nat → Nat → Nat → Nat → Nat → Nat → Nat
  | [], _, _, _, _, _, _, _, _, _, _, _, _, _, _, _, _, a, _, _, _, _, _, _, _ => a
  | k :: ks, w0, w1, w2, w3, w4, w5, w6, w7, w8, w9, wa, wb, wc, wd, we, wf, a, b, c, d, e, f, g, h =>
    now (addN (addN (addN (addN h (S1N e)) (chN e f g)) k) w0) fun t =>
    now (addN t (addN (S0N a) (majN a b c))) fun a' =>
    now (addN d t) fun e' =>
    now (addN (addN (addN w0 (s0N w1)) w9) (s1N we)) fun w' =>
    go ks w1 w2 w3 w4 w5 w6 w7 w8 w9 wa wb wc wd we wf w' a' a b c e' e f g
def keysN : List Nat := [0x428a2f98, 0x71374491, 0xb5c0fbcf, 0xe9b5dba5, 0x3956c25b, 0x59f111f1, 0x923f82a4, 0xab1c5ed5,
  0xd807aa98, 0x12835b01, 0x243185be, 0x550c7dc3, 0x72be5d74, 0x80deb1fe, 0x9bdc06a7, 0xc19bf174,
  0xe49b69c1, 0xefbe4786, 0x0fc19dc6, 0x240ca1cc, 0x2de92c6f, 0x4a7484aa, 0x5cb0a9dc, 0x76f988da,
  0x983e5152, 0xa831c66d, 0xb00327c8, 0xbf597fc7, 0xc6e00bf3, 0xd5a79147, 0x06ca6351, 0x14292967,
  0x27b70a85, 0x2e1b2138, 0x4d2c6dfc, 0x53380d13, 0x650a7354, 0x766a0abb, 0x81c2c92e, 0x92722c85,
  0xa2bfe8a1, 0xa81a664b, 0xc24b8b70, 0xc76c51a3, 0xd192e819, 0xd6990624, 0xf40e3585, 0x106aa070,
  0x19a4c116, 0x1e376c08, 0x2748774c, 0x34b0bcb5, 0x391c0cb3, 0x4ed8aa4a, 0x5b9cca4f, 0x682e6ff3,
  0x748f82ee, 0x78a5636f, 0x84c87814, 0x8cc70208, 0x90befffa, 0xa4506ceb, 0xbef9a3f7, 0xc67178f2]
theorem keys_is : keys = keysN.map Int.ofNat := by decide
theorem key_is {i : Nat} {k : Nat} (h : keysN[i]? = some k) : key i = (k : Int) := by
  unfold key
  rw [keys_is, List.getD_eq_getElem?_getD, List.getElem?_map, h]
  rfl
theorem keys_lt : ∀ k ∈ keysN, lt32 k := by unfold lt32; decide
/-- registers that are such numbers -/
structure RN (r : Regs) (a b c d e f g h : Nat) : Prop where
  a : r.a = (a : Int) ∧ lt32 a
  b : r.b = (b : Int) ∧ lt32 b
  c : r.c = (c : Int) ∧ lt32 c
  d : r.d = (d : Int) ∧ lt32 d
  e : r.e = (e : Int) ∧ lt32 e
  f : r.f = (f : Int) ∧ lt32 f
  g : r.g = (g : Int) ∧ lt32 g
  h : r.h = (h : Int) ∧ lt32 h
theorem round_is {r : Regs} {a b c d e f g h k w : Nat} (R : RN r a b c d e f g h) :
    RN (round r (k : Int) (w : Int)) (addN (addN (addN (addN (addN h (S1N e)) (chN e f g)) k) w) (addN (S0N a) (majN a b c))) a b c (addN d (addN (addN (addN (addN h (S1N e)) (chN e f g)) k) w)) e f g := by
  have h1 : t1 r (k : Int) (w : Int) = ((addN (addN (addN (addN h (S1N e)) (chN e f g)) k) w : Nat) : Int) := by
    unfold t1
    rw [R.h.1, R.e.1, R.f.1, R.g.1, (S1_is R.e.2).1, (ch_is R.e.2 R.f.2 R.g.2).1, (A_is _ _).1, (A_is _ _).1, (A_is _ _).1, (A_is _ _).1]
  have h2 : t2 r = ((addN (S0N a) (majN a b c) : Nat) : Int) := by
    unfold t2
    rw [R.a.1, R.b.1, R.c.1, (S0_is R.a.2).1, (maj_is R.a.2 R.b.2 R.c.2).1, (A_is _ _).1]
  refine ⟨?_, R.a, R.b, R.c, ?_, R.e, R.f, R.g⟩
  · refine ⟨?_, (A_is _ _).2⟩
    show A (t1 r k w) (t2 r) = _
    rw [h1, h2, (A_is _ _).1]
  · refine ⟨?_, (A_is _ _).2⟩
    show A r.d (t1 r k w) = _
    rw [h1, R.d.1, (A_is _ _).1]
/-- all words of a block are such numbers -/
theorem words_is (F : Nat → Int) (v : Nat → Nat) (h16 : ∀ i, i < 16 → F i = (v i : Int) ∧ lt32 (v i)) (hn : ∀ i, v (i + 16) = addN (addN (addN (v i) (s0N (v (i + 1)))) (v (i + 9))) (s1N (v (i + 14)))) : ∀ i, W F i = (v i : Int) ∧ lt32 (v i) := by
  intro i
  induction i using Nat.strongRecOn with
  | ind i ih =>
    by_cases h : i < 16
    · rw [W_low F h]
      exact h16 i h
    · obtain ⟨j, rfl⟩ : ∃ j, i = j + 16 := ⟨i - 16, by omega⟩
      have q0 := ih j (by omega)
      have q1 := ih (j + 1) (by omega)
      have q9 := ih (j + 9) (by omega)
      have qe := ih (j + 14) (by omega)
      rw [W_next F (by omega), show j + 16 - 16 = j by omega, show j + 16 - 15 = j + 1 by omega, show j + 16 - 7 = j + 9 by omega, show j + 16 - 2 = j + 14 by omega, q0.1, q1.1, q9.1, qe.1, (s0_is q1.2).1, (s1_is qe.2).1, (A_is _ _).1, (A_is _ _).1, (A_is _ _).1, hn]
      exact ⟨rfl, (A_is _ _).2⟩
theorem go_is (F : Nat → Int) (v : Nat → Nat) (hv : ∀ i, W F i = (v i : Int) ∧ lt32 (v i)) (hn : ∀ i, v (i + 16) = addN (addN (addN (v i) (s0N (v (i + 1)))) (v (i + 9))) (s1N (v (i + 14)))) (r0 : Regs) :
    ∀ (n i : Nat) (a b c d e f g h : Nat), i + n = 64 → RN (rounds F r0 i) a b c d e f g h →
      (rounds F r0 64).a = ((go (keysN.drop i) (v i) (v (i + 1)) (v (i + 2)) (v (i + 3)) (v (i + 4)) (v (i + 5)) (v (i + 6)) (v (i + 7)) (v (i + 8)) (v (i + 9)) (v (i + 10)) (v (i + 11)) (v (i + 12)) (v (i + 13)) (v (i + 14)) (v (i + 15)) a b c d e f g h : Nat) : Int)
  | 0, i, a, b, c, d, e, f, g, h, hi, R => by
    obtain rfl : i = 64 := by omega
    have : keysN.drop 64 = [] := by decide
    rw [this]
    exact R.a.1
  | n + 1, i, a, b, c, d, e, f, g, h, hi, R => by
    have hlt : i < keysN.length := by have : keysN.length = 64 := by decide
                                      omega
    have hk := key_is (List.getElem?_eq_getElem hlt)
    have R2 := round_is (k := keysN[i]) (w := v i) R
    have e1 : rounds F r0 (i + 1) = round (rounds F r0 i) ((keysN[i] : Nat) : Int) ((v i : Nat) : Int) := by
      show round (rounds F r0 i) (key i) (W F i) = _
      rw [hk, (hv i).1]
    rw [← e1] at R2
    have h2 := go_is F v hv hn r0 n (i + 1) _ _ _ _ _ _ _ _ (by omega) R2
    rw [h2, List.drop_eq_getElem_cons hlt, go, now_is, now_is, now_is, now_is]
    rw [show i + 1 + 15 = i + 16 by omega, hn i]
end Go.Proofs.YtmoojhnblakdhaaGreat.shn
namespace Go.Proofs.YtmoojhnblakdhaaGreat.shn
open Go.RowKit Go.Joins
open Go.Proofs.YtmoojhnblakdhaaGreat.base Go.Proofs.YtmoojhnblakdhaaGreat.word Go.Proofs.YtmoojhnblakdhaaGreat.ints Go.Proofs.YtmoojhnblakdhaaGreat.sha
set_option linter.unusedVariables false
set_option linter.unusedSimpArgs false

/-- word j of bytes -/
def wN (B : List Nat) (j : Nat) : Nat := ((B.getD (4 * j) 0 * 16777216 ||| B.getD (4 * j + 1) 0 * 65536) ||| B.getD (4 * j + 2) 0 * 256) ||| B.getD (4 * j + 3) 0
/-- the first number of the state behind a block of 64 bytes -/
def dv (B : List Nat) : Nat :=
    now (wN B 0) fun x0 =>
    now (wN B 1) fun x1 =>
    now (wN B 2) fun x2 =>
    now (wN B 3) fun x3 =>
    now (wN B 4) fun x4 =>
    now (wN B 5) fun x5 =>
    now (wN B 6) fun x6 =>
    now (wN B 7) fun x7 =>
    now (wN B 8) fun x8 =>
    now (wN B 9) fun x9 =>
    now (wN B 10) fun x10 =>
    now (wN B 11) fun x11 =>
    now (wN B 12) fun x12 =>
    now (wN B 13) fun x13 =>
    now (wN B 14) fun x14 =>
    now (wN B 15) fun x15 =>
    addN 1779033703 (go keysN x0 x1 x2 x3 x4 x5 x6 x7 x8 x9 x10 x11 x12 x13 x14 x15 1779033703 3144134277 1013904242 2773480762 1359893119 2600822924 528734635 1541459225)
theorem dv_is (B : List Nat) : dv B = addN 1779033703 (go keysN (wN B 0) (wN B 1) (wN B 2) (wN B 3) (wN B 4) (wN B 5) (wN B 6) (wN B 7) (wN B 8) (wN B 9) (wN B 10) (wN B 11) (wN B 12) (wN B 13) (wN B 14) (wN B 15) 1779033703 3144134277 1013904242 2773480762 1359893119 2600822924 528734635 1541459225) := by
  unfold dv
  simp only [now_is]
/-- what stands behind a text of so many bytes -/
def tl (n : Nat) : List Nat := (128 :: List.replicate (55 - n) 0) ++ [0, 0, 0, 0, 0, 0, 0, 8 * n]
def sgn (B : List Nat) : Nat := dv (B ++ tl B.length)
/-- a number's decimal digits -/
def decN (i : Nat) : List Nat := if i < 10 then [48 + i] else if i < 100 then [48 + i / 10, 48 + i % 10] else [48 + i / 100, 48 + i / 10 % 10, 48 + i % 10]
def tab0 : List Nat := [
  1609362278, 1803989619, 3564330554, 1309098117, 1260550007, 4012708477, 3891707921, 2030201243, 744636978, 425205287,
  1246026773, 1338518310, 1800524849, 1071358815, 2233968785, 3861510757, 2977887953, 1159943183, 1321818527, 2483089842,
  4123670775, 1867212306, 2019507911, 1398776589, 3258277993, 3081070707, 1604078256, 1728475597, 1507956486, 890460842,
  1649107141, 3944625128, 3801914392, 3337858135, 2263155017, 2668888666, 1990527111, 2053223735, 2930319666, 194087235,
  3583954641, 1032933267, 1934056628, 1154183948, 1911440803, 2165802669, 637275760, 826839126, 2550205401, 236444362]
def tab1 : List Nat := [
  442851929, 52120309, 1104134353, 676912337, 801780845, 47319997, 1988671215, 3359073436, 1644752655, 1042191998,
  972725953, 3492411962, 2176360511, 3662586533, 2794144044, 277649755, 987402994, 1238466796, 2719503834, 3344741994,
  4284095200, 2132956119, 2267177314, 2516983442, 3949088190, 4083796873, 4149148350, 2827647234, 882655520, 2560863100,
  1212455444, 1394002460, 2758686563, 3149489579, 1153958684, 3029617775, 1129093978, 3184710575, 2341735399, 3446718112,
  1777703975, 497359757, 2185323670, 1849688455, 3822503124, 2907242393, 2065311631, 3604489387, 702221415, 2350846022]
def tab2 : List Nat := [
  2908173928, 383530634, 931352367, 1162830764, 1593245171, 307489079, 1210947187, 860287675, 2503471918, 265562943,
  2614831862, 4141916642, 2975165930, 1818595048, 2669649358, 685434824, 3854066086, 717781168, 2245701487, 809025461,
  716884553, 2309627480, 467665729, 2791679065, 1795152611, 261026615, 1705417104, 2452388180, 659011527, 1701192462,
  953576854, 4006253053, 3685867222, 3539239783, 1563991902, 325521527, 921428485, 3624840814, 3601072919, 2368191031,
  3685644077, 746411152, 3572408152, 3606103838, 1589747913, 3192368603, 173737069, 489210144, 3962476811, 95266915]
def tab3 : List Nat := [
  2598550999, 2388732881, 70280922, 1644993587, 487505573, 554580758, 267188516, 3344818749, 2128146675, 4281125739,
  2769476391, 3144060073, 2044127906, 1026721527, 1066928075, 3159547235, 3773849001, 1943269818, 2160315712, 4118699185,
  1934427993, 676193538, 1750178462, 1250268839, 1105535405, 3670359063, 3416427401, 2362593538, 30754169, 812139277,
  2070508950, 1476923898, 3215418182, 3098464370, 1391531552, 1638017466, 672232541, 951242815, 3590724542, 1883623786,
  597111915, 1881540418, 3946570288, 1750066079, 1968818762, 502975278, 3032212552, 2345383105, 2766146942, 1513736925]
def tab4 : List Nat := [
  666557592, 1133989591, 3246316206, 1176617429, 4233550790, 4169177855, 1559552619, 2525001406, 2381737828, 2214073591,
  3533525872, 154416291, 4197153520, 3566204082, 2150338666, 3630530725, 255926736, 381345734, 1499900880, 827262131,
  913903309, 1743373228, 2609321234, 1458887206, 2225408302, 241509249, 2401199323, 3756404355, 2640920302, 139002517,
  2699750490, 328048256, 2203934339, 3226507848, 290181457, 170746939, 2583993091, 4038865295, 2330247739, 2042562664,
  1794242194, 1956628048, 335951511, 1917061664, 2193628385, 18544426, 935464729, 963608644, 1986835772, 2672312633]
def tab5 : List Nat := [
  507980601, 3344776991, 3605373451, 3884347356, 2501040477, 2505488420, 1374218792, 1284964356, 2735689460, 2082810547,
  968591604, 3901269622, 2657776213, 1273512209, 3148187993, 1988855023, 3931842389, 2328634264, 2336844793, 4148659978,
  3637606663, 909486366, 476842930, 809274325, 1904289665, 975043333, 3345694807, 668408263, 3999456805, 4024003309,
  2131370513, 1906425859, 669081938, 3766815351, 510192974, 2698082228, 3312869, 3620579932, 600201202, 2937589315,
  159997408, 860954631, 1840704330, 2092332757, 754748619, 2633841781, 2700653252, 1276507258, 1995168621, 814231812]

def tab : List Nat := tab0 ++ tab1 ++ tab2 ++ tab3 ++ tab4 ++ tab5
theorem tab_apart : tab.Nodup := by decide +kernel
theorem got0 : (List.range 50).map (fun i => sgn (decN (0 + i))) = tab0 := by kernel_rfl
theorem got1 : (List.range 50).map (fun i => sgn (decN (50 + i))) = tab1 := by kernel_rfl
theorem got2 : (List.range 50).map (fun i => sgn (decN (100 + i))) = tab2 := by kernel_rfl
theorem got3 : (List.range 50).map (fun i => sgn (decN (150 + i))) = tab3 := by kernel_rfl
theorem got4 : (List.range 50).map (fun i => sgn (decN (200 + i))) = tab4 := by kernel_rfl
theorem got5 : (List.range 50).map (fun i => sgn (decN (250 + i))) = tab5 := by kernel_rfl

end Go.Proofs.YtmoojhnblakdhaaGreat.shn
namespace Go.Proofs.YtmoojhnblakdhaaGreat.shn
open Go.RowKit Go.Joins
open Go.Proofs.YtmoojhnblakdhaaGreat.base Go.Proofs.YtmoojhnblakdhaaGreat.word Go.Proofs.YtmoojhnblakdhaaGreat.ints Go.Proofs.YtmoojhnblakdhaaGreat.sha
set_option linter.unusedVariables false
set_option linter.unusedSimpArgs false

/-- a text's bytes as numbers -/
def bs (t : ByteArray) : List Nat := t.data.toList.map UInt8.toNat
theorem bs_len (t : ByteArray) : (bs t).length = t.size := by
  unfold bs
  rw [List.length_map, Array.length_toList]
  rfl
theorem bt_is (s : ByteArray) (i : Nat) : Go.PlainAid.bt s i = (((bs s).getD i 0 : Nat) : Int) ∧ (bs s).getD i 0 < 256 := by
  unfold Go.PlainAid.bt bs
  rw [List.getD_eq_getElem?_getD, List.getElem?_map, Array.getElem?_toList]
  by_cases h : i < s.size
  · rw [dif_pos h, Array.getElem?_eq_getElem (by exact h)]
    simp only [Option.map_some, Option.getD_some]
    exact ⟨rfl, UInt8.toNat_lt _⟩
  · rw [dif_neg h, Array.getElem?_eq_none (by exact Nat.le_of_not_lt h)]
    exact ⟨rfl, by decide⟩
theorem mul_is (b c : Nat) (hb : b < 256) (hc : c ≤ 16777216) : M ((b : Int) % 4294967296) (c : Int) = ((b * c : Nat) : Int) ∧ lt32 (b * c) := by
  have h1 : b * c ≤ 255 * 16777216 := Nat.mul_le_mul (by omega) hc
  have e : (b : Int) % 4294967296 = (b : Int) := by omega
  unfold M lt32
  rw [e, wrap32, ← Int.natCast_mul]
  omega
theorem word_is (s : ByteArray) (j : Nat) : wordAt s j = ((wN (bs s) j : Nat) : Int) ∧ lt32 (wN (bs s) j) := by
  obtain ⟨e0, l0⟩ := bt_is s (4 * j)
  obtain ⟨e1, l1⟩ := bt_is s (4 * j + 1)
  obtain ⟨e2, l2⟩ := bt_is s (4 * j + 2)
  obtain ⟨e3, l3⟩ := bt_is s (4 * j + 3)
  unfold wordAt b8 wN
  rw [e0, e1, e2, e3]
  generalize (bs s).getD (4 * j) 0 = a0 at *
  generalize (bs s).getD (4 * j + 1) 0 = a1 at *
  generalize (bs s).getD (4 * j + 2) 0 = a2 at *
  generalize (bs s).getD (4 * j + 3) 0 = a3 at *
  obtain ⟨m0, k0⟩ := mul_is a0 16777216 l0 (by omega)
  obtain ⟨m1, k1⟩ := mul_is a1 65536 l1 (by omega)
  obtain ⟨m2, k2⟩ := mul_is a2 256 l2 (by omega)
  have m3 : (a3 : Int) % 4294967296 = (a3 : Int) := by omega
  have k3 : lt32 a3 := by unfold lt32; omega
  have m0' : M ((a0 : Int) % 4294967296) 16777216 = ((a0 * 16777216 : Nat) : Int) := m0
  have m1' : M ((a1 : Int) % 4294967296) 65536 = ((a1 * 65536 : Nat) : Int) := m1
  have m2' : M ((a2 : Int) % 4294967296) 256 = ((a2 * 256 : Nat) : Int) := m2
  rw [m0', m1', m2', m3]
  obtain ⟨o1, q1⟩ := O_is k0 k1
  obtain ⟨o2, q2⟩ := O_is q1 k2
  rw [o1, o2]
  exact O_is q2 k3
theorem words_lt (F : Nat → Int) (h16 : ∀ i, i < 16 → ∃ n : Nat, F i = (n : Int) ∧ lt32 n) : ∀ i, ∃ n : Nat, W F i = (n : Int) ∧ lt32 n := by
  intro i
  induction i using Nat.strongRecOn with
  | ind i ih =>
    by_cases h : i < 16
    · rw [W_low F h]
      exact h16 i h
    · obtain ⟨n1, e1, l1⟩ := ih (i - 16) (by omega)
      obtain ⟨n2, e2, l2⟩ := ih (i - 15) (by omega)
      obtain ⟨n3, e3, l3⟩ := ih (i - 7) (by omega)
      obtain ⟨n4, e4, l4⟩ := ih (i - 2) (by omega)
      rw [W_next F (by omega), e1, e2, e3, e4, (s0_is l2).1, (s1_is l4).1, (A_is _ _).1, (A_is _ _).1, (A_is _ _).1]
      exact ⟨_, rfl, (A_is _ _).2⟩
theorem nth0 (r : Regs) : nth r 0 = r.a := rfl
theorem R0 : RN (regs sha.start) 1779033703 3144134277 1013904242 2773480762 1359893119 2600822924 528734635 1541459225 := by
  refine ⟨?_, ?_, ?_, ?_, ?_, ?_, ?_, ?_⟩ <;> exact ⟨by decide, by unfold lt32; decide⟩
theorem ext_all (s : ByteArray) (n : Nat) (h : s.size = n) : s.extract 0 n = s := by
  subst h
  apply ByteArray.ext
  simp
def wv (s : ByteArray) (i : Nat) : Nat := (W (wordAt s) i).toNat
theorem v_is (s : ByteArray) (i : Nat) : W (wordAt s) i = ((wv s i : Nat) : Int) ∧ lt32 (wv s i) := by
  unfold wv
  obtain ⟨n, e, l⟩ := words_lt (wordAt s) (fun i _ => ⟨_, word_is s i⟩) i
  rw [e]
  exact ⟨rfl, l⟩
theorem v_next (s : ByteArray) (i : Nat) : wv s (i + 16) = addN (addN (addN (wv s i) (s0N (wv s (i + 1)))) (wv s (i + 9))) (s1N (wv s (i + 14))) := by
  have h := W_next (wordAt s) (i := i + 16) (by omega)
  rw [show i + 16 - 16 = i by omega, show i + 16 - 15 = i + 1 by omega, show i + 16 - 7 = i + 9 by omega, show i + 16 - 2 = i + 14 by omega, (v_is s i).1, (v_is s (i + 1)).1, (v_is s (i + 9)).1, (v_is s (i + 14)).1, (s0_is (v_is s (i + 1)).2).1, (s1_is (v_is s (i + 14)).2).1, (A_is _ _).1, (A_is _ _).1, (A_is _ _).1, (v_is s (i + 16)).1] at h
  exact Int.ofNat.inj h
theorem v_low (s : ByteArray) {j : Nat} (h : j < 16) : wv s j = wN (bs s) j := by
  have e := (v_is s j).1
  rw [W_low _ h, (word_is s j).1] at e
  exact (Int.ofNat.inj e).symm
theorem go_v (s : ByteArray) : (rounds (wordAt s) (regs sha.start) 64).a = ((go (keysN.drop 0) (wv s 0) (wv s (0 + 1)) (wv s (0 + 2)) (wv s (0 + 3)) (wv s (0 + 4)) (wv s (0 + 5)) (wv s (0 + 6)) (wv s (0 + 7)) (wv s (0 + 8)) (wv s (0 + 9)) (wv s (0 + 10)) (wv s (0 + 11)) (wv s (0 + 12)) (wv s (0 + 13)) (wv s (0 + 14)) (wv s (0 + 15)) 1779033703 3144134277 1013904242 2773480762 1359893119 2600822924 528734635 1541459225 : Nat) : Int) :=
  go_is (wordAt s) (wv s) (v_is s) (v_next s) (regs sha.start) 64 0 _ _ _ _ _ _ _ _ (by omega) R0
theorem start0 : U (sha.start 0) = ((1779033703 : Nat) : Int) := by decide
theorem drop0 : keysN.drop 0 = keysN := List.drop_zero
theorem first_is (s : ByteArray) : block sha.start (wordAt s) 0 = ((dv (bs s) : Nat) : Int) ∧ lt32 (dv (bs s)) := by
  have h := go_v s
  rw [drop0, v_low s (j := 0) (by omega), v_low s (j := 0 + 1) (by omega), v_low s (j := 0 + 2) (by omega), v_low s (j := 0 + 3) (by omega), v_low s (j := 0 + 4) (by omega), v_low s (j := 0 + 5) (by omega), v_low s (j := 0 + 6) (by omega), v_low s (j := 0 + 7) (by omega), v_low s (j := 0 + 8) (by omega), v_low s (j := 0 + 9) (by omega), v_low s (j := 0 + 10) (by omega), v_low s (j := 0 + 11) (by omega), v_low s (j := 0 + 12) (by omega), v_low s (j := 0 + 13) (by omega), v_low s (j := 0 + 14) (by omega), v_low s (j := 0 + 15) (by omega)] at h
  simp only [Nat.zero_add] at h
  have hd := dv_is (bs s)
  generalize go keysN (wN (bs s) 0) (wN (bs s) 1) (wN (bs s) 2) (wN (bs s) 3) (wN (bs s) 4) (wN (bs s) 5) (wN (bs s) 6) (wN (bs s) 7) (wN (bs s) 8) (wN (bs s) 9) (wN (bs s) 10) (wN (bs s) 11) (wN (bs s) 12) (wN (bs s) 13) (wN (bs s) 14) (wN (bs s) 15) 1779033703 3144134277 1013904242 2773480762 1359893119 2600822924 528734635 1541459225 = G at h hd
  rw [hd]
  unfold block
  rw [nth0, h, start0]
  exact A_is _ _
theorem tail_is (n : Nat) (h : n ≤ 3) : (tail (n : Int)).map UInt8.toNat = tl n := by
  rcases (show n = 0 ∨ n = 1 ∨ n = 2 ∨ n = 3 by omega) with rfl | rfl | rfl | rfl <;> decide +kernel
theorem bs_app (s : ByteArray) (l : List UInt8) : bs (s ++ ⟨l.toArray⟩) = bs s ++ l.map UInt8.toNat := by
  unfold bs
  rw [← List.map_append]
  congr 1
theorem dig_first (t : ByteArray) (h : t.size ≤ 3) : ∃ r, (digest t).data.toList = [by8 ((sgn (bs t) : Nat) : Int) 16777216, by8 ((sgn (bs t) : Nat) : Int) 65536, by8 ((sgn (bs t) : Nat) : Int) 256, by8 ((sgn (bs t) : Nat) : Int) 1] ++ r := by
  have h0 : t.size / 64 = 0 := by omega
  have hrest : rest t = t := by
    unfold rest
    rw [h0]
    apply ByteArray.ext
    simp
  have hs : (t ++ (⟨(tail (t.size : Int)).toArray⟩ : ByteArray)).size = 64 := by
    rw [ByteArray.size_append]
    show t.size + (tail (t.size : Int)).toArray.size = 64
    rw [List.size_toArray, tail_len]
    unfold gap
    omega
  have hb : bs (t ++ (⟨(tail (t.size : Int)).toArray⟩ : ByteArray)) = bs t ++ tl (bs t).length := by
    rw [bs_app, tail_is _ h, bs_len]
  have e : digest t = ⟨(digL (block sha.start (wordAt (t ++ (⟨(tail (t.size : Int)).toArray⟩ : ByteArray)))) 8).toArray⟩ := by
    unfold digest dig
    rw [if_neg (by omega), h0, hrest, hs]
    show (⟨(digL (after sha.start _ 1) 8).toArray⟩ : ByteArray) = _
    have e2 := ext_all _ 64 hs
    show (⟨(digL (block sha.start (wordAt ((t ++ (⟨(tail (t.size : Int)).toArray⟩ : ByteArray)).extract 0 64))) 8).toArray⟩ : ByteArray) = _
    rw [e2]
  obtain ⟨f0, l0⟩ := first_is (t ++ (⟨(tail (t.size : Int)).toArray⟩ : ByteArray))
  rw [hb] at f0
  rw [e]
  generalize block sha.start (wordAt (t ++ (⟨(tail (t.size : Int)).toArray⟩ : ByteArray))) = f at *
  refine ⟨((List.range 7).map (· + 1)).flatMap fun q => [by8 (f q) 16777216, by8 (f q) 65536, by8 (f q) 256, by8 (f q) 1], ?_⟩
  show (digL f 8).toArray.toList = _
  rw [List.toList_toArray]
  unfold digL sgn
  rw [← f0]
  rfl
theorem by8_eq {a b : Nat} {d : Int} (h : by8 (a : Int) d = by8 (b : Int) d) : (a : Int) / d % 256 = (b : Int) / d % 256 := by
  rw [← by8_val, ← by8_val, h]
theorem sgn_lt (t : ByteArray) (h : t.size ≤ 3) : lt32 (sgn (bs t)) := by
  have hb : bs (t ++ (⟨(tail (t.size : Int)).toArray⟩ : ByteArray)) = bs t ++ tl (bs t).length := by
    rw [bs_app, tail_is _ h, bs_len]
  have := (first_is (t ++ (⟨(tail (t.size : Int)).toArray⟩ : ByteArray))).2
  rw [hb] at this
  exact this
theorem dig_inj {t u : ByteArray} (ht : t.size ≤ 3) (hu : u.size ≤ 3) (h : digest t = digest u) : sgn (bs t) = sgn (bs u) := by
  obtain ⟨r, e1⟩ := dig_first t ht
  obtain ⟨q, e2⟩ := dig_first u hu
  have l1 := sgn_lt t ht
  have l2 := sgn_lt u hu
  rw [h, e2] at e1
  simp only [List.cons_append, List.nil_append, List.cons.injEq] at e1
  obtain ⟨h1, h2, h3, h4, _⟩ := e1
  have k1 := by8_eq h1
  have k2 := by8_eq h2
  have k3 := by8_eq h3
  have k4 := by8_eq h4
  unfold lt32 at l1 l2
  omega
theorem all_is : (List.range 300).map (fun i => sgn (decN i)) = tab := by
  have e : List.range 300 = (List.range 50).map (fun i => 0 + i) ++ (List.range 50).map (fun i => 50 + i) ++ (List.range 50).map (fun i => 100 + i) ++ (List.range 50).map (fun i => 150 + i) ++ (List.range 50).map (fun i => 200 + i) ++ (List.range 50).map (fun i => 250 + i) := by decide +kernel
  rw [e]
  simp only [List.map_append, List.map_map]
  unfold tab
  rw [← got0, ← got1, ← got2, ← got3, ← got4, ← got5]
  rfl
theorem sgn_apart {i j : Nat} (hi : i < 300) (hj : j < 300) (hne : i ≠ j) : sgn (decN i) ≠ sgn (decN j) := by
  have h := tab_apart
  rw [← all_is] at h
  unfold List.Nodup at h
  rw [List.pairwise_map, List.pairwise_iff_getElem] at h
  have aux : ∀ a b, a < b → b < 300 → sgn (decN a) ≠ sgn (decN b) := fun a b hab hb => by
    have := h a b (by simp; omega) (by simpa using hb) hab
    simpa using this
  rcases Nat.lt_or_gt_of_ne hne with q | q
  · exact aux i j q hj
  · exact fun e => aux j i q hi e.symm
end Go.Proofs.YtmoojhnblakdhaaGreat.shn
