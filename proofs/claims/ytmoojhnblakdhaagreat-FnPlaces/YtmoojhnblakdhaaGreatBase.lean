/-
  Plain facts that other texts of this claim use: the bytes of a number, the string made of a row of bytes. No condition.
-/
import Derived.WalkKit
import Derived.ProofKit
import Derived.OpenShut
import Derived.ShutString
import Derived.Laws.IdiomStrings
import Derived.Laws.BitsAllLaws
import Derived.Deep.RegionLaw
namespace Go.Proofs.YtmoojhnblakdhaaGreat.base
open Go.RowKit

theorem mkHid {P : Prop} (h : P) : Hid P := h

/-- a byte as a cell -/
def byteV (b : UInt8) : Value := .int .u8 (b.toNat : Int)

def vb : Nat → Nat → List UInt8
  | 0, u => [UInt8.ofNat u]
  | f + 1, u => if u < 128 then [UInt8.ofNat u] else UInt8.ofNat (u % 128 + 128) :: vb f (u / 128)

theorem vb_fuel : ∀ (f u : Nat), u ≤ f → vb f u = vb u u := by
  intro f
  induction f using Nat.strongRecOn with
  | _ f ih =>
    intro u hu
    cases f with
    | zero => obtain rfl : u = 0 := by omega
              rfl
    | succ f =>
      cases u with
      | zero => simp [vb]
      | succ u =>
        unfold vb
        by_cases h : u + 1 < 128
        · simp [h]
        · simp only [h, if_false]
          rw [ih f (by omega) _ (by omega), ih u (by omega) _ (by omega)]

/-- the bytes of a number that was folded -/
def num (u : Nat) : List UInt8 := vb u u

theorem num_small {u : Nat} (h : u < 128) : num u = [UInt8.ofNat u] := by
  unfold num
  cases u with
  | zero => rfl
  | succ u => unfold vb; simp [h]

theorem num_big {u : Nat} (h : 128 ≤ u) : num u = UInt8.ofNat (u % 128 + 128) :: num (u / 128) := by
  unfold num
  cases u with
  | zero => omega
  | succ u =>
    rw [vb, if_neg (by omega), vb_fuel u _ (by omega)]

theorem pow_next {u n : Nat} (h : u * 128 ^ n < 18446744073709551616) : u / 128 * 128 ^ (n + 1) < 18446744073709551616 := by
  rw [Nat.pow_succ, Nat.mul_comm (128 ^ n) 128, ← Nat.mul_assoc]
  exact Nat.lt_of_le_of_lt (Nat.mul_le_mul_right _ (Nat.div_mul_le_self u 128)) h

theorem pow_small {u n : Nat} (h : u * 128 ^ n < 18446744073709551616) (hu : 1 ≤ u) : n ≤ 9 := by
  rcases Nat.lt_or_ge 9 n with h9 | h9
  · have h1 : 128 ^ 10 ≤ 128 ^ n := Nat.pow_le_pow_right (by omega) (by omega)
    have h2 : 1 * 128 ^ n ≤ u * 128 ^ n := Nat.mul_le_mul_right _ hu
    have h3 : (128 : Nat) ^ 10 = 1180591620717411303424 := by decide +kernel
    omega
  · exact h9

/-- the string that is made of an owned row of bytes that is not empty -/
theorem owns_string {P : Program} {w : World} {base e src dst : Nat} {v : Value} {l : List UInt8} (hs : P.underlying src = some (.slice e)) (he : P.underlying e = some (.int .u8)) (hd : P.underlying dst = some .string)
    (h : w.ownsRow base e 1 v l.length (l.map byteV)) (hn : 0 < l.length) :
    ∃ g cap, v = .slice (some ⟨g, 0, none⟩) l.length cap ∧ (convert src dst (.slice (some ⟨g, 0, none⟩) l.length cap)).run P w = .ok (.string ⟨l.toArray⟩) w := by
  have h' := h
  obtain ⟨_, h2⟩ := h
  rcases h2 with ⟨_, h0⟩ | ⟨g, cap, cur, rfl, _, _, _, _, _, _⟩
  · omega
  · refine ⟨g, cap, rfl, ?_⟩
    refine run_convert_bytes_back w src dst e _ cap l hs he hd ?_
    intro j hj
    exact h'.cells rfl j _ (by simp [byteV, hj])

theorem row_more {w1 : World} {B e : Nat} {v' : Value} {acc : List UInt8} {x : Int} (b : UInt8) (hb : x = (b.toNat : Int)) (h : w1.ownsRow B e 1 v' (acc.length + 1) (acc.map byteV ++ [.int .u8 x])) :
    w1.ownsRow B e 1 v' (acc ++ [b]).length ((acc ++ [b]).map byteV) := by
  subst hb
  simpa [byteV] using h

/-- behind an append of one byte: nothing below B has turned -/
theorem below_more {B e : Nat} {w wr w1 : World} {v : Value} {n : Nat} {xs : List Value} {o : Obj} (hB : w.heap.size = B) (hbel : Below B w wr) (hown : wr.ownsRow B e 1 v n xs) (hg : (wr.alloc o).grownBy w1 v.ownBlock) : Below B w w1 := by
  have hs := hbel.size
  exact ((hbel.alloc (by omega) _).grown hg (by simp; omega) (fun k hk => (hown.lt k hk).1))

theorem toNat_ofNat {n : Nat} (h : n < 256) : ((UInt8.ofNat n).toNat : Int) = (n : Int) := by
  rw [UInt8.toNat_ofNat']
  omega

/-- append onto an owned row, as one step of a region that draws its order -/
theorem step_append_own {P : Program} {ops : Array Oper} {o : Oper} {a : Act} {w : World} {K : Act → World → Prop} {Q : Exit → Act → World → Prop} {E : Prop}
    (hg : o.guard = none) (s x : Operand) (t : TypeId) (hop : o.op = Op.call { callee := Callee.builtin Builtin.append, args := #[s, x], argTypes := #[t, t] })
    (base : Nat) (e : TypeId) (i : TypeInfo) (z : Value) (size bytes : Nat) (h1 : P.underlying t = some (.slice e)) (h2 : P.info? e = some i) (h3 : i.zero = some z) (h4 : i.size = size) (h5 : i.bytes = bytes) (h6 : z.cells.size = size) (h7 : 0 < size)
    (v : Value) (n : Nat) (xs : List Value) (hs : a.eval s = v) (hown : w.ownsRow base e size v n xs)
    (ad : Addr) (m c : Nat) (news : List Value) (hx : a.eval x = .slice (some ad) m c) (hn : news.length = m * size) (hc : ∀ j u, news[j]? = some u → w.cell? (ad.add j) = some u) (h1c : ∀ u ∈ news, u.oneCell' = true)
    (b1 : n + m ≤ maxLen) (b2 : (n + m) * bytes ≤ 140737488355328) (b3 : base ≤ w.heap.size)
    (hK : ∀ v' w', w'.ownsRow base e size v' (n + m) (xs ++ news) → w.grownBy w' v.ownBlock → K (a.put o.dst v') w') :
    if Region.wanted o (yielded ops a.tmps) = true then Oper.wp P o a w K Q else E := by
  have hw : Region.wanted o (yielded ops a.tmps) = true := by simp [Region.wanted, hg]
  rw [if_pos hw]
  obtain ⟨v', w', hrun, r1, r2, _⟩ := run_append_own (P := P) w base t o.type e i z size bytes h1 h2 h3 h4 h5 h6 h7 v n xs hown ad m c news hn hc h1c b1 b2 b3
  unfold Oper.wp
  simp [execOp, hop, resolve, invoke, builtin, hs, hx, hrun, Result.andThen]
  exact hK v' w' r1 r2

theorem cells2 (wr : World) (a b : Value) (e : TypeId) : ∀ j u, [a, b][j]? = some u → ((wr.alloc (.cells #[a, b] e)).drew).cell? ((⟨wr.heap.size, 0, none⟩ : Addr).add j) = some u := by
  intro j u hj
  match j, hj with
  | 0, hj => simp at hj; subst hj; simp [Addr.add]
  | 1, hj => simp at hj; subst hj; simp [Addr.add]
theorem one2 (x y : Int) : ∀ u ∈ [Value.int .u8 x, Value.int .u8 y], u.oneCell' = true := by
  intro u hu; simp at hu; rcases hu with rfl | rfl <;> rfl

theorem row_two {w1 : World} {B e : Nat} {v' : Value} {acc : List UInt8} (b c : UInt8) (h : w1.ownsRow B e 1 v' (acc.length + 2) (acc.map byteV ++ [.int .u8 (b.toNat : Int), .int .u8 (c.toNat : Int)])) :
    w1.ownsRow B e 1 v' (acc ++ [b, c]).length ((acc ++ [b, c]).map byteV) := by
  simpa [byteV] using h

theorem below_grown {B e : Nat} {w wr W w1 : World} {v : Value} {n : Nat} {xs : List Value} (hW : Below B w W) (hs : B ≤ W.heap.size) (hown : wr.ownsRow B e 1 v n xs) (hg : W.grownBy w1 v.ownBlock) : Below B w w1 :=
  hW.grown hg hs (fun k hk => (hown.lt k hk).1)

/-- the string that is made of an owned row of bytes -/
theorem owns_string_any {P : Program} {w : World} {base e src dst : Nat} {v : Value} {l : List UInt8} (hs : P.underlying src = some (.slice e)) (he : P.underlying e = some (.int .u8)) (hd : P.underlying dst = some .string)
    (h : w.ownsRow base e 1 v l.length (l.map byteV)) :
    ∃ a n cap, v = .slice a n cap ∧ (convert src dst (.slice a n cap)).run P w = .ok (.string ⟨l.toArray⟩) w := by
  have h' := h
  obtain ⟨_, h2⟩ := h
  rcases h2 with ⟨rfl, h0⟩ | ⟨g, cap, cur, rfl, _, _, _, _, _, _⟩
  · refine ⟨none, 0, 0, rfl, ?_⟩
    have hl : l = [] := List.eq_nil_of_length_eq_zero h0
    subst hl
    rw [run_convert_bytes_string w src dst e none 0 0 hs he hd]
    simp [Conv.bytesToString, Sem.run_pure]
    rfl
  · refine ⟨_, _, cap, rfl, ?_⟩
    refine run_convert_bytes_back w src dst e _ cap l hs he hd ?_
    intro j hj
    exact h'.cells rfl j _ (by simp [byteV, hj])

theorem take_snoc (s : ByteArray) (k : Nat) (h : k < s.size) : s.data.toList.take (k + 1) = s.data.toList.take k ++ [s[k]] := by
  rw [List.take_succ_eq_append_getElem (by simpa using h)]; rfl

end Go.Proofs.YtmoojhnblakdhaaGreat.base
