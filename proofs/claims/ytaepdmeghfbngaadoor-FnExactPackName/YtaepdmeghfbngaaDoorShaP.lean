/-
  SHA-256 in plain numbers, as the specification reckons it: the words of a block, the rounds, a block taken into a state. Rows of words in memory. No condition.
-/
import Derived.Test.YtaepdmeghfbngaaDoorWord
import Derived.Test.YtaepdmeghfbngaaDoorRowF
namespace Go.Proofs.YtaepdmeghfbngaaDoor.sha
open Go.RowKit Go.Joins
open Go.Proofs.YtaepdmeghfbngaaDoor.base Go.Proofs.YtaepdmeghfbngaaDoor.word Go.Proofs.YtaepdmeghfbngaaDoor.ints
set_option linter.unusedVariables false

def s0 (x : Int) : Int := X (X (rot x 7) (rot x 18)) (x / 8)
def s1 (x : Int) : Int := X (X (rot x 17) (rot x 19)) (x / 1024)
def S1 (x : Int) : Int := X (X (rot x 6) (rot x 11)) (rot x 25)
def S0 (x : Int) : Int := X (X (rot x 2) (rot x 13)) (rot x 22)
def ch (e f g : Int) : Int := X (N e f) (N (X 4294967295 e) g)
def maj (a b c : Int) : Int := X (X (N a b) (N a c)) (N b c)

/-- word i, reckoned in at most n steps back -/
def Wn (f : Nat → Int) : Nat → Nat → Int
  | 0, i => f i
  | n + 1, i => if i < 16 then f i else A (A (A (Wn f n (i - 16)) (s0 (Wn f n (i - 15)))) (Wn f n (i - 7))) (s1 (Wn f n (i - 2)))
/-- word i of a block whose first sixteen words are f -/
def W (f : Nat → Int) (i : Nat) : Int := Wn f i i
theorem Wn_fuel (f : Nat → Int) : ∀ n m i, i ≤ n → i ≤ m → Wn f n i = Wn f m i
  | 0, 0, i, _, _ => rfl
  | 0, m + 1, i, h, _ => by
    obtain rfl : i = 0 := by omega
    simp [Wn]
  | n + 1, 0, i, _, h => by
    obtain rfl : i = 0 := by omega
    simp [Wn]
  | n + 1, m + 1, i, h1, h2 => by
    by_cases h : i < 16
    · rw [Wn, Wn, if_pos h, if_pos h]
    · rw [Wn, Wn, if_neg h, if_neg h, Wn_fuel f n m (i - 16) (by omega) (by omega), Wn_fuel f n m (i - 15) (by omega) (by omega), Wn_fuel f n m (i - 7) (by omega) (by omega), Wn_fuel f n m (i - 2) (by omega) (by omega)]
theorem W_low (f : Nat → Int) {i : Nat} (h : i < 16) : W f i = f i := by
  unfold W
  cases i with
  | zero => rfl
  | succ k => rw [Wn, if_pos h]
theorem W_next (f : Nat → Int) {i : Nat} (h : 16 ≤ i) : W f i = A (A (A (W f (i - 16)) (s0 (W f (i - 15)))) (W f (i - 7))) (s1 (W f (i - 2))) := by
  obtain ⟨k, rfl⟩ : ∃ k, i = k + 1 := ⟨i - 1, by omega⟩
  unfold W
  rw [Wn_fuel f (k + 1 - 16) k _ (by omega) (by omega), Wn_fuel f (k + 1 - 15) k _ (by omega) (by omega), Wn_fuel f (k + 1 - 7) k _ (by omega) (by omega), Wn_fuel f (k + 1 - 2) k _ (by omega) (by omega), Wn, if_neg (by omega)]

def keys : List Int := [0x428a2f98, 0x71374491, 0xb5c0fbcf, 0xe9b5dba5, 0x3956c25b, 0x59f111f1, 0x923f82a4, 0xab1c5ed5,
  0xd807aa98, 0x12835b01, 0x243185be, 0x550c7dc3, 0x72be5d74, 0x80deb1fe, 0x9bdc06a7, 0xc19bf174,
  0xe49b69c1, 0xefbe4786, 0x0fc19dc6, 0x240ca1cc, 0x2de92c6f, 0x4a7484aa, 0x5cb0a9dc, 0x76f988da,
  0x983e5152, 0xa831c66d, 0xb00327c8, 0xbf597fc7, 0xc6e00bf3, 0xd5a79147, 0x06ca6351, 0x14292967,
  0x27b70a85, 0x2e1b2138, 0x4d2c6dfc, 0x53380d13, 0x650a7354, 0x766a0abb, 0x81c2c92e, 0x92722c85,
  0xa2bfe8a1, 0xa81a664b, 0xc24b8b70, 0xc76c51a3, 0xd192e819, 0xd6990624, 0xf40e3585, 0x106aa070,
  0x19a4c116, 0x1e376c08, 0x2748774c, 0x34b0bcb5, 0x391c0cb3, 0x4ed8aa4a, 0x5b9cca4f, 0x682e6ff3,
  0x748f82ee, 0x78a5636f, 0x84c87814, 0x8cc70208, 0x90befffa, 0xa4506ceb, 0xbef9a3f7, 0xc67178f2]
def key (i : Nat) : Int := keys.getD i 0

/-- the numbers of the rounds are there: the program's variable -/
def GV (w : World) : Prop := ∀ i, i < 64 → w.cell? ⟨0, i, none⟩ = some (.int .u32 (key i))
theorem GV.lt {w : World} (h : GV w) : 0 < w.heap.size := World.block_lt_of_cell? w _ (h 0 (by omega))
theorem GV.below {w w' : World} {B : Nat} (h : GV w) (hb : Below B w w') (hB : 0 < B) : GV w' := fun i hi => by
  rw [hb.cell (p := ⟨0, i, none⟩) hB]; exact h i hi
theorem GV.at {w w' : World} (h : GV w) (hb : Below w.heap.size w w') : GV w' := h.below hb h.lt

/-- a to h -/
structure Regs where
  a : Int
  b : Int
  c : Int
  d : Int
  e : Int
  f : Int
  g : Int
  h : Int
def t1 (r : Regs) (k w : Int) : Int := A (A (A (A r.h (S1 r.e)) (ch r.e r.f r.g)) k) w
def t2 (r : Regs) : Int := A (S0 r.a) (maj r.a r.b r.c)
def round (r : Regs) (k w : Int) : Regs := ⟨A (t1 r k w) (t2 r), r.a, r.b, r.c, A r.d (t1 r k w), r.e, r.f, r.g⟩
def rounds (f : Nat → Int) (r : Regs) : Nat → Regs
  | 0 => r
  | i + 1 => round (rounds f r i) (key i) (W f i)

/-- the state of eight numbers as registers -/
def regs (st : Nat → Int) : Regs := ⟨U (st 0), U (st 1), U (st 2), U (st 3), U (st 4), U (st 5), U (st 6), U (st 7)⟩
def nth (r : Regs) : Nat → Int
  | 0 => r.a | 1 => r.b | 2 => r.c | 3 => r.d | 4 => r.e | 5 => r.f | 6 => r.g | _ => r.h
/-- a block taken into a state -/
def block (st : Nat → Int) (f : Nat → Int) (i : Nat) : Int := A (U (st i)) (nth (rounds f (regs st) 64) i)
end Go.Proofs.YtaepdmeghfbngaaDoor.sha
