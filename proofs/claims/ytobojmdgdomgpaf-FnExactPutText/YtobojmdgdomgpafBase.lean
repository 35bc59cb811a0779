/-
  Plain facts that other texts of this claim use: the bytes of a number, the string made of a row of bytes. No condition.
-/
import Derived.WalkKit
import Derived.ProofKit
import Derived.OpenShut
import Derived.ShutString
import Derived.Laws.IdiomStrings
import Derived.Laws.BitsAllLaws
namespace Go.Proofs.Ytobojmdgdomgpaf.base
open Go.RowKit

theorem mkHid {P : Prop} (h : P) : Hid P := h

/-- a byte as a cell -/
def byteV (b : UInt8) : Value := .int .u8 (b.toNat : Int)

def vb : Nat → Nat → List UInt8
  | 0, u => [UInt8.ofNat u]
  | f + 1, u => if u < 128 then [UInt8.ofNat u] else UInt8.ofNat (u % 128 + 128) :: vb f (u / 128)

theorem vb_fuel : ∀ (f u : Nat), u ≤ f → vb f u = vb u u := by
  intro f
  induction f using Nat.strongRecOn with
  | _ f ih =>
    intro u hu
    cases f with
    | zero => obtain rfl : u = 0 := by omega
              rfl
    | succ f =>
      cases u with
      | zero => simp [vb]
      | succ u =>
        unfold vb
        by_cases h : u + 1 < 128
        · simp [h]
        · simp only [h, if_false]
          rw [ih f (by omega) _ (by omega), ih u (by omega) _ (by omega)]

/-- the bytes of a number that was folded -/
def num (u : Nat) : List UInt8 := vb u u

theorem num_small {u : Nat} (h : u < 128) : num u = [UInt8.ofNat u] := by
  unfold num
  cases u with
  | zero => rfl
  | succ u => unfold vb; simp [h]

theorem num_big {u : Nat} (h : 128 ≤ u) : num u = UInt8.ofNat (u % 128 + 128) :: num (u / 128) := by
  unfold num
  cases u with
  | zero => omega
  | succ u =>
    rw [vb, if_neg (by omega), vb_fuel u _ (by omega)]

theorem pow_next {u n : Nat} (h : u * 128 ^ n < 18446744073709551616) : u / 128 * 128 ^ (n + 1) < 18446744073709551616 := by
  rw [Nat.pow_succ, Nat.mul_comm (128 ^ n) 128, ← Nat.mul_assoc]
  exact Nat.lt_of_le_of_lt (Nat.mul_le_mul_right _ (Nat.div_mul_le_self u 128)) h

theorem pow_small {u n : Nat} (h : u * 128 ^ n < 18446744073709551616) (hu : 1 ≤ u) : n ≤ 9 := by
  rcases Nat.lt_or_ge 9 n with h9 | h9
  · have h1 : 128 ^ 10 ≤ 128 ^ n := Nat.pow_le_pow_right (by omega) (by omega)
    have h2 : 1 * 128 ^ n ≤ u * 128 ^ n := Nat.mul_le_mul_right _ hu
    have h3 : (128 : Nat) ^ 10 = 1180591620717411303424 := by decide +kernel
    omega
  · exact h9

/-- the string that is made of an owned row of bytes that is not empty -/
theorem owns_string {P : Program} {w : World} {base e src dst : Nat} {v : Value} {l : List UInt8} (hs : P.underlying src = some (.slice e)) (he : P.underlying e = some (.int .u8)) (hd : P.underlying dst = some .string)
    (h : w.ownsRow base e 1 v l.length (l.map byteV)) (hn : 0 < l.length) :
    ∃ g cap, v = .slice (some ⟨g, 0, none⟩) l.length cap ∧ (convert src dst (.slice (some ⟨g, 0, none⟩) l.length cap)).run P w = .ok (.string ⟨l.toArray⟩) w := by
  have h' := h
  obtain ⟨_, h2⟩ := h
  rcases h2 with ⟨_, h0⟩ | ⟨g, cap, cur, rfl, _, _, _, _, _, _⟩
  · omega
  · refine ⟨g, cap, rfl, ?_⟩
    refine run_convert_bytes_back w src dst e _ cap l hs he hd ?_
    intro j hj
    exact h'.cells rfl j _ (by simp [byteV, hj])

theorem row_more {w1 : World} {B e : Nat} {v' : Value} {acc : List UInt8} {x : Int} (b : UInt8) (hb : x = (b.toNat : Int)) (h : w1.ownsRow B e 1 v' (acc.length + 1) (acc.map byteV ++ [.int .u8 x])) :
    w1.ownsRow B e 1 v' (acc ++ [b]).length ((acc ++ [b]).map byteV) := by
  subst hb
  simpa [byteV] using h

/-- behind an append of one byte: nothing below B has turned -/
theorem below_more {B e : Nat} {w wr w1 : World} {v : Value} {n : Nat} {xs : List Value} {o : Obj} (hB : w.heap.size = B) (hbel : Below B w wr) (hown : wr.ownsRow B e 1 v n xs) (hg : (wr.alloc o).grownBy w1 v.ownBlock) : Below B w w1 := by
  have hs := hbel.size
  exact ((hbel.alloc (by omega) _).grown hg (by simp; omega) (fun k hk => (hown.lt k hk).1))

theorem toNat_ofNat {n : Nat} (h : n < 256) : ((UInt8.ofNat n).toNat : Int) = (n : Int) := by
  rw [UInt8.toNat_ofNat']
  omega

end Go.Proofs.Ytobojmdgdomgpaf.base
