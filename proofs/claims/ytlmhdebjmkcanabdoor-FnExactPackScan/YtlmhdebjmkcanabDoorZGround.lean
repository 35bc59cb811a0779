/-
  Plain facts that other texts of this claim use: the bytes of a number, the string made of a row of bytes. No condition.
  Numbers of 32 bits: sums, bits and turns as plain functions, folded, so that walks carry their names. No condition.
  Blocks of memory: what stays, what is new. No condition.
  Rows of int64 in memory: what laws.toInt64S, szInt64S, eqInt64S, markInt64S and heldInt64S answer and leave. Conditions: at most 1,048,576 numbers; the numbers lie in memory; a row that is written lies in a block of its own.
  Rows of numbers in memory, as functions and as lists; a Hash as a value; the state at first. No condition.
  SHA-256 in plain numbers, as the specification reckons it: the words of a block, the rounds, a block taken into a state. Rows of words in memory. No condition.
  Small facts on worlds that the texts on packs use. No condition.
  What impl.isKind answers. No condition.
-/
import Derived.Test.YtlmhdebjmkcanabDoorRows
import Derived.WalkKit
import Derived.ProofKit
import Derived.OpenShut
import Derived.ShutString
import Derived.Laws.IdiomStrings
import Derived.Laws.BitsAllLaws
import Derived.Deep.RegionLaw
import Derived.Lib.SmallJoins
import Derived.Laws.MakeOwn
namespace Go.Proofs.YtlmhdebjmkcanabDoor.base
open Go.RowKit

theorem mkHid {P : Prop} (h : P) : Hid P := h

/-- a byte as a cell -/
def byteV (b : UInt8) : Value := .int .u8 (b.toNat : Int)

def vb : Nat → Nat → List UInt8
  | 0, u => [UInt8.ofNat u]
  | f + 1, u => if u < 128 then [UInt8.ofNat u] else UInt8.ofNat (u % 128 + 128) :: vb f (u / 128)

theorem vb_fuel : ∀ (f u : Nat), u ≤ f → vb f u = vb u u := by
  intro f
  induction f using Nat.strongRecOn with
  | _ f ih =>
    intro u hu
    cases f with
    | zero => obtain rfl : u = 0 := by omega
              rfl
    | succ f =>
      cases u with
      | zero => simp [vb]
      | succ u =>
        unfold vb
        by_cases h : u + 1 < 128
        · simp [h]
        · simp only [h, if_false]
          rw [ih f (by omega) _ (by omega), ih u (by omega) _ (by omega)]

/-- the bytes of a number that was folded -/
def num (u : Nat) : List UInt8 := vb u u

theorem num_small {u : Nat} (h : u < 128) : num u = [UInt8.ofNat u] := by
  unfold num
  cases u with
  | zero => rfl
  | succ u => unfold vb; simp [h]

theorem num_big {u : Nat} (h : 128 ≤ u) : num u = UInt8.ofNat (u % 128 + 128) :: num (u / 128) := by
  unfold num
  cases u with
  | zero => omega
  | succ u =>
    rw [vb, if_neg (by omega), vb_fuel u _ (by omega)]

theorem pow_next {u n : Nat} (h : u * 128 ^ n < 18446744073709551616) : u / 128 * 128 ^ (n + 1) < 18446744073709551616 := by
  rw [Nat.pow_succ, Nat.mul_comm (128 ^ n) 128, ← Nat.mul_assoc]
  exact Nat.lt_of_le_of_lt (Nat.mul_le_mul_right _ (Nat.div_mul_le_self u 128)) h

theorem pow_small {u n : Nat} (h : u * 128 ^ n < 18446744073709551616) (hu : 1 ≤ u) : n ≤ 9 := by
  rcases Nat.lt_or_ge 9 n with h9 | h9
  · have h1 : 128 ^ 10 ≤ 128 ^ n := Nat.pow_le_pow_right (by omega) (by omega)
    have h2 : 1 * 128 ^ n ≤ u * 128 ^ n := Nat.mul_le_mul_right _ hu
    have h3 : (128 : Nat) ^ 10 = 1180591620717411303424 := by decide +kernel
    omega
  · exact h9

/-- the string that is made of an owned row of bytes that is not empty -/
theorem owns_string {P : Program} {w : World} {base e src dst : Nat} {v : Value} {l : List UInt8} (hs : P.underlying src = some (.slice e)) (he : P.underlying e = some (.int .u8)) (hd : P.underlying dst = some .string)
    (h : w.ownsRow base e 1 v l.length (l.map byteV)) (hn : 0 < l.length) :
    ∃ g cap, v = .slice (some ⟨g, 0, none⟩) l.length cap ∧ (convert src dst (.slice (some ⟨g, 0, none⟩) l.length cap)).run P w = .ok (.string ⟨l.toArray⟩) w := by
  have h' := h
  obtain ⟨_, h2⟩ := h
  rcases h2 with ⟨_, h0⟩ | ⟨g, cap, cur, rfl, _, _, _, _, _, _⟩
  · omega
  · refine ⟨g, cap, rfl, ?_⟩
    refine run_convert_bytes_back w src dst e _ cap l hs he hd ?_
    intro j hj
    exact h'.cells rfl j _ (by simp [byteV, hj])

theorem row_more {w1 : World} {B e : Nat} {v' : Value} {acc : List UInt8} {x : Int} (b : UInt8) (hb : x = (b.toNat : Int)) (h : w1.ownsRow B e 1 v' (acc.length + 1) (acc.map byteV ++ [.int .u8 x])) :
    w1.ownsRow B e 1 v' (acc ++ [b]).length ((acc ++ [b]).map byteV) := by
  subst hb
  simpa [byteV] using h

/-- behind an append of one byte: nothing below B has turned -/
theorem below_more {B e : Nat} {w wr w1 : World} {v : Value} {n : Nat} {xs : List Value} {o : Obj} (hB : w.heap.size = B) (hbel : Below B w wr) (hown : wr.ownsRow B e 1 v n xs) (hg : (wr.alloc o).grownBy w1 v.ownBlock) : Below B w w1 := by
  have hs := hbel.size
  exact ((hbel.alloc (by omega) _).grown hg (by simp; omega) (fun k hk => (hown.lt k hk).1))

theorem toNat_ofNat {n : Nat} (h : n < 256) : ((UInt8.ofNat n).toNat : Int) = (n : Int) := by
  rw [UInt8.toNat_ofNat']
  omega

/-- append onto an owned row, as one step of a region that draws its order -/
theorem step_append_own {P : Program} {ops : Array Oper} {o : Oper} {a : Act} {w : World} {K : Act → World → Prop} {Q : Exit → Act → World → Prop} {E : Prop}
    (hg : o.guard = none) (s x : Operand) (t : TypeId) (hop : o.op = Op.call { callee := Callee.builtin Builtin.append, args := #[s, x], argTypes := #[t, t] })
    (base : Nat) (e : TypeId) (i : TypeInfo) (z : Value) (size bytes : Nat) (h1 : P.underlying t = some (.slice e)) (h2 : P.info? e = some i) (h3 : i.zero = some z) (h4 : i.size = size) (h5 : i.bytes = bytes) (h6 : z.cells.size = size) (h7 : 0 < size)
    (v : Value) (n : Nat) (xs : List Value) (hs : a.eval s = v) (hown : w.ownsRow base e size v n xs)
    (ad : Addr) (m c : Nat) (news : List Value) (hx : a.eval x = .slice (some ad) m c) (hn : news.length = m * size) (hc : ∀ j u, news[j]? = some u → w.cell? (ad.add j) = some u) (h1c : ∀ u ∈ news, u.oneCell' = true)
    (b1 : n + m ≤ maxLen) (b2 : (n + m) * bytes ≤ 140737488355328) (b3 : base ≤ w.heap.size)
    (hK : ∀ v' w', w'.ownsRow base e size v' (n + m) (xs ++ news) → w.grownBy w' v.ownBlock → K (a.put o.dst v') w') :
    if Region.wanted o (yielded ops a.tmps) = true then Oper.wp P o a w K Q else E := by
  have hw : Region.wanted o (yielded ops a.tmps) = true := by simp [Region.wanted, hg]
  rw [if_pos hw]
  obtain ⟨v', w', hrun, r1, r2, _⟩ := run_append_own (P := P) w base t o.type e i z size bytes h1 h2 h3 h4 h5 h6 h7 v n xs hown ad m c news hn hc h1c b1 b2 b3
  unfold Oper.wp
  simp [execOp, hop, resolve, invoke, builtin, hs, hx, hrun, Result.andThen]
  exact hK v' w' r1 r2

theorem cells2 (wr : World) (a b : Value) (e : TypeId) : ∀ j u, [a, b][j]? = some u → ((wr.alloc (.cells #[a, b] e)).drew).cell? ((⟨wr.heap.size, 0, none⟩ : Addr).add j) = some u := by
  intro j u hj
  match j, hj with
  | 0, hj => simp at hj; subst hj; simp [Addr.add]
  | 1, hj => simp at hj; subst hj; simp [Addr.add]
theorem one2 (x y : Int) : ∀ u ∈ [Value.int .u8 x, Value.int .u8 y], u.oneCell' = true := by
  intro u hu; simp at hu; rcases hu with rfl | rfl <;> rfl

theorem row_two {w1 : World} {B e : Nat} {v' : Value} {acc : List UInt8} (b c : UInt8) (h : w1.ownsRow B e 1 v' (acc.length + 2) (acc.map byteV ++ [.int .u8 (b.toNat : Int), .int .u8 (c.toNat : Int)])) :
    w1.ownsRow B e 1 v' (acc ++ [b, c]).length ((acc ++ [b, c]).map byteV) := by
  simpa [byteV] using h

theorem below_grown {B e : Nat} {w wr W w1 : World} {v : Value} {n : Nat} {xs : List Value} (hW : Below B w W) (hs : B ≤ W.heap.size) (hown : wr.ownsRow B e 1 v n xs) (hg : W.grownBy w1 v.ownBlock) : Below B w w1 :=
  hW.grown hg hs (fun k hk => (hown.lt k hk).1)

/-- the string that is made of an owned row of bytes -/
theorem owns_string_any {P : Program} {w : World} {base e src dst : Nat} {v : Value} {l : List UInt8} (hs : P.underlying src = some (.slice e)) (he : P.underlying e = some (.int .u8)) (hd : P.underlying dst = some .string)
    (h : w.ownsRow base e 1 v l.length (l.map byteV)) :
    ∃ a n cap, v = .slice a n cap ∧ (convert src dst (.slice a n cap)).run P w = .ok (.string ⟨l.toArray⟩) w := by
  have h' := h
  obtain ⟨_, h2⟩ := h
  rcases h2 with ⟨rfl, h0⟩ | ⟨g, cap, cur, rfl, _, _, _, _, _, _⟩
  · refine ⟨none, 0, 0, rfl, ?_⟩
    have hl : l = [] := List.eq_nil_of_length_eq_zero h0
    subst hl
    rw [run_convert_bytes_string w src dst e none 0 0 hs he hd]
    simp [Conv.bytesToString, Sem.run_pure]
    rfl
  · refine ⟨_, _, cap, rfl, ?_⟩
    refine run_convert_bytes_back w src dst e _ cap l hs he hd ?_
    intro j hj
    exact h'.cells rfl j _ (by simp [byteV, hj])

theorem take_snoc (s : ByteArray) (k : Nat) (h : k < s.size) : s.data.toList.take (k + 1) = s.data.toList.take k ++ [s[k]] := by
  rw [List.take_succ_eq_append_getElem (by simpa using h)]; rfl

end Go.Proofs.YtlmhdebjmkcanabDoor.base
namespace Go.Proofs.YtlmhdebjmkcanabDoor.word
open Go.RowKit
open Go.Proofs.YtlmhdebjmkcanabDoor.base
set_option linter.unusedVariables false

def A (a b : Int) : Int := IntKind.u32.wrap (a + b)
def X (a b : Int) : Int := bits .xor .u32 a b
def N (a b : Int) : Int := bits .and .u32 a b
def O (a b : Int) : Int := bits .or .u32 a b
/-- times a power of 2 -/
def M (a c : Int) : Int := IntKind.u32.wrap (a * c)
/-- the low 32 bits -/
def U (a : Int) : Int := a % 4294967296
/-- turned right -/
def rot (x k : Int) : Int := O (x / 2 ^ k.toNat) (M x (2 ^ (32 - k).toNat))

theorem A_fold (a b : Int) : IntKind.u32.wrap (a + b) = A a b := rfl
theorem X_fold (a b : Int) : bits .xor .u32 a b = X a b := rfl
theorem N_fold (a b : Int) : bits .and .u32 a b = N a b := rfl
theorem O_fold (a b : Int) : bits .or .u32 a b = O a b := rfl
theorem M_fold (a c : Int) : IntKind.u32.wrap (a * c) = M a c := rfl

theorem ret_eq {a b : Value} (h : a = b) : Ending.returned a = Ending.returned b := by rw [h]

theorem turn_any (x k : Int) (w : World) (h0 : 0 ≤ k) (h1 : k ≤ 32) : Calls Tryd.prog 80 #[.int .u32 x, .int .u64 k] w fun e w' => e = .returned (.int .u32 (rot x k)) ∧ w' = w := by
  go_enter Tryd.func80, Tryd.ntmps80
  go_wp2
  go_ret
  exact ⟨rfl, rfl⟩
end Go.Proofs.YtlmhdebjmkcanabDoor.word
namespace Go.Proofs.YtlmhdebjmkcanabDoor.blk
open Go.RowKit Go.Joins
open Go.Proofs.YtlmhdebjmkcanabDoor.base
set_option linter.unusedVariables false

theorem blk_new (w : World) (o : Obj) (j : Nat) (hj : j = w.heap.size) : (w.alloc o).heap[j]? = some o := by subst hj; exact heap_alloc_new w o
theorem blk_old {w : World} {j : Nat} {x : Obj} (h : w.heap[j]? = some x) (o : Obj) : (w.alloc o).heap[j]? = some x := (Below.heap_alloc w o j (Array.getElem?_eq_some_iff.1 h).1).trans h
theorem blk_below {w w' : World} {j : Nat} {x : Obj} (h : w.heap[j]? = some x) (hb : Below w.heap.size w w') : w'.heap[j]? = some x := (hb.block j (Array.getElem?_eq_some_iff.1 h).1).trans h
theorem blk_set {w : World} {j : Nat} {x : Obj} (h : w.heap[j]? = some x) (p : Addr) (v : Value) (hne : j ≠ p.block) : (w.setCell p v).heap[j]? = some x := (Below.heap_setCell w p v j hne).trans h
theorem below_allocs {w w' : World} {os : List Obj} (hb : Below (os.foldl World.alloc w).heap.size (os.foldl World.alloc w) w') : Below w.heap.size w w' := by
  induction os generalizing w with
  | nil => exact hb
  | cons o r ih =>
    have k := ih (w := w.alloc o) hb
    exact ((Below.refl _ _).alloc (Nat.le_refl _) o).trans (k.mono (by simp))

end Go.Proofs.YtlmhdebjmkcanabDoor.blk
namespace Go.Proofs.YtlmhdebjmkcanabDoor.ints
open Go.RowKit Go.Joins
open Go.Proofs.YtlmhdebjmkcanabDoor.base
set_option linter.unusedVariables false

/-- a number as a cell -/
def intV (z : Int) : Value := .int .i64 z

/-- the numbers of a slice lie in memory -/
def Rd (w : World) (a : Option Addr) (zs : List Int) : Prop :=
  ∀ i z, zs[i]? = some z → ∃ b off, a = some ⟨b, off, none⟩ ∧ w.cell? ⟨b, off + i, none⟩ = some (.int .i64 z)

/-- a row in a block of its own -/
def Own (w : World) (g : Nat) (zs : List Int) : Prop := w.heap[g]? = some (.cells (zs.map intV).toArray 2 (0, 0))

theorem Rd.block {w w' : World} {a : Option Addr} {zs : List Int} (h : Rd w a zs) (hb : ∀ b off, a = some ⟨b, off, none⟩ → b < w.heap.size → w'.heap[b]? = w.heap[b]?) : Rd w' a zs := by
  intro i z hz
  obtain ⟨b, off, e1, e2⟩ := h i z hz
  refine ⟨b, off, e1, ?_⟩
  rw [World.cell?_of_block (w := w) (a := ⟨b, off + i, none⟩) (hb b off e1 (World.block_lt_of_cell? w _ e2))]
  exact e2
theorem Rd.below {w w' : World} {a : Option Addr} {zs : List Int} (h : Rd w a zs) (hb : Below w.heap.size w w') : Rd w' a zs := h.block fun b _ _ hl => hb.block b hl
theorem Rd.drew {w : World} {a : Option Addr} {zs : List Int} (h : Rd w a zs) : Rd w.drew a zs := h
theorem Rd.alloc {w : World} {a : Option Addr} {zs : List Int} (h : Rd w a zs) (o : Obj) : Rd (w.alloc o) a zs := h.below ((Below.refl _ _).alloc (Nat.le_refl _) o)
theorem Rd.nil (w : World) : Rd w none [] := by intro i z h; simp at h

theorem Own.lt {w : World} {g : Nat} {zs : List Int} (h : Own w g zs) : g < w.heap.size := (Array.getElem?_eq_some_iff.1 h).1
theorem Own.below {w w' : World} {g : Nat} {zs : List Int} (h : Own w g zs) (hb : Below w.heap.size w w') : Own w' g zs := (hb.block g h.lt).trans h
theorem Own.cell {w : World} {g : Nat} {zs : List Int} (h : Own w g zs) {i : Nat} {z : Int} (hz : zs[i]? = some z) : w.cell? ⟨g, i, none⟩ = some (.int .i64 z) := by
  rw [cell_of_block h]; simp [hz, intV]
theorem Own.free {w : World} {g : Nat} {zs : List Int} (h : Own w g zs) (i : Nat) : w.frozen? ⟨g, i, none⟩ = false := unfrozen_of_block h i
theorem Own.rd {w : World} {g : Nat} {zs : List Int} (h : Own w g zs) : Rd w (some ⟨g, 0, none⟩) zs := by
  intro i z hz
  exact ⟨g, 0, rfl, by simpa using h.cell hz⟩
theorem Own.set {w : World} {g : Nat} {zs : List Int} (h : Own w g zs) (i : Nat) (z : Int) : Own (w.setCell ⟨g, i, none⟩ (.int .i64 z)) g (zs.set i z) := by
  have e := block_setCell (i := i) h (.int .i64 z)
  unfold Own
  rw [e]
  congr 2
  simp [intV, List.map_set]

theorem Own.other {w : World} {g : Nat} {zs : List Int} (h : Own w g zs) (p : Addr) (v : Value) (hne : g ≠ p.block) : Own (w.setCell p v) g zs := (Below.heap_setCell w p v g hne).trans h

theorem grew_set {w w' : World} {g i : Nat} {v : Value} (h : w.grownBy w' (some g)) : w.grownBy (w'.setCell ⟨g, i, none⟩ v) (some g) :=
  ⟨h.os, h.tape, h.output, by simpa using h.size, fun k hk hne => (Below.heap_setCell w' ⟨g, i, none⟩ v k (fun e => hne (by simp at e; rw [e]))).trans (h.block k hk hne)⟩
theorem grew_refl (w : World) (r : Option Nat) : w.grownBy w r := ⟨rfl, rfl, rfl, Nat.le_refl _, fun _ _ _ => rfl⟩
theorem grew_alloc {w w' : World} {r : Option Nat} (h : w.grownBy w' r) (o : Obj) : w.grownBy (w'.alloc o) r :=
  ⟨h.os, h.tape, h.output, by have := h.size; simp; omega, fun k hk hne => (Below.heap_alloc w' o k (Nat.lt_of_lt_of_le hk h.size)).trans (h.block k hk hne)⟩
theorem grew_trans {a b c : World} {r : Option Nat} (h : a.grownBy b r) (k : b.grownBy c r) : a.grownBy c r :=
  ⟨k.os.trans h.os, k.tape.trans h.tape, k.output.trans h.output, Nat.le_trans h.size k.size, fun i hi hne => (k.block i (Nat.lt_of_lt_of_le hi h.size) hne).trans (h.block i hi hne)⟩

theorem info2 : (Tryd.prog.info? 2).map (fun i => (i.zero, i.size, i.bytes)) = some (some (.int .i64 0), 1, 8) := by kernel_rfl
theorem info_parts {o : Option TypeInfo} {z : Option Value} {s b : Nat} (h : o.map (fun i => (i.zero, i.size, i.bytes)) = some (z, s, b)) : ∃ i, o = some i ∧ i.zero = z ∧ i.size = s ∧ i.bytes = b := by
  cases o with
  | none => simp at h
  | some i => simp at h; exact ⟨i, rfl, h.1, h.2.1, h.2.2⟩
theorem info2s : (Tryd.prog.info? 2).map (·.size) = some 1 := by kernel_rfl

theorem made_row (n : Nat) : madeCells #[.int .i64 0] n = ((List.replicate n (0 : Int)).map intV).toArray := by
  apply Array.ext
  · simp [madeCells]
  · intro i h1 h2
    simp [intV, madeCells, Nat.mod_one]

theorem run_make_ints (n : Nat) (hn : n ≤ 1048576) (u : World) : (Instr.makeSlice 93 (.int .i64 (n : Int)) (.int .i64 (n : Int))).run Tryd.prog u =
    .ok (.slice (some ⟨u.heap.size, 0, none⟩) n n) (u.alloc (.cells ((List.replicate n (0 : Int)).map intV).toArray 2)) := by
  obtain ⟨i0, hi, hz0, hz1, hz2⟩ := info_parts info2
  have h := run_make (P := Tryd.prog) u 93 2 i0 (.int .i64 0) Tryd.underlying93 hi hz0 .i64 .i64 (n : Int) (n : Int) (by omega) (Int.le_refl _) (by rw [hz2]; omega) (by omega)
  have e : (n : Int).toNat = n := by omega
  rw [e] at h
  rw [← made_row]
  simpa [hz1, Value.cells] using h

/-- k numbers are there, the rest is 0 -/
def part (zs : List Int) (k : Nat) : List Int := zs.take k ++ List.replicate (zs.length - k) 0
theorem part_zero (zs : List Int) : part zs 0 = List.replicate zs.length 0 := by simp [part]
theorem part_all (zs : List Int) : part zs zs.length = zs := by simp [part]
theorem part_len (zs : List Int) (k : Nat) (hk : k ≤ zs.length) : (part zs k).length = zs.length := by simp [part]; omega
theorem part_next (zs : List Int) (k : Nat) (z : Int) (hk : k < zs.length) (hz : zs[k]? = some z) : (part zs k).set k z = part zs (k + 1) := by
  unfold part
  have e : zs.length - k = (zs.length - (k + 1)) + 1 := by omega
  rw [e, List.replicate_succ, List.set_append_right _ _ (by simp; omega)]
  have e2 : (zs.take k).length = k := by simp; omega
  rw [e2, Nat.sub_self, List.set_cons_zero, List.take_add_one, hz]
  simp

theorem ret_eq {b c : Bool} (h : b = c) : Ending.returned (.bool b) = .returned (.bool c) := by rw [h]

/-- numbers from k on, n of them -/
def from_ (k : Int) (n : Nat) : List Int := (List.range n).map fun (i : Nat) => k + (i : Int)
theorem from_len (k : Int) (n : Nat) : (from_ k n).length = n := by simp [from_]
theorem from_at (k : Int) (n i : Nat) (h : i < n) : (from_ k n)[i]? = some (k + (i : Int)) := by simp [from_, h]
/-- i numbers are marked -/
def marked (k : Int) (zs : List Int) (i : Nat) : List Int := (from_ k zs.length).take i ++ zs.drop i
theorem marked_zero (k : Int) (zs : List Int) : marked k zs 0 = zs := by simp [marked]
theorem marked_all (k : Int) (zs : List Int) : marked k zs zs.length = from_ k zs.length := by
  unfold marked
  rw [List.take_of_length_le (by rw [from_len]; exact Nat.le_refl _)]
  simp
theorem marked_len (k : Int) (zs : List Int) (i : Nat) (h : i ≤ zs.length) : (marked k zs i).length = zs.length := by simp [marked, from_len]; omega
theorem marked_next (k : Int) (zs : List Int) (i : Nat) (h : i < zs.length) : (marked k zs i).set i (k + (i : Int)) = marked k zs (i + 1) := by
  unfold marked
  have e2 : ((from_ k zs.length).take i).length = i := by simp [from_len]; omega
  rw [List.set_append_right _ _ (by rw [e2]; exact Nat.le_refl _), e2, Nat.sub_self, List.drop_eq_getElem_cons h, List.set_cons_zero, List.take_add_one, from_at k _ i h]
  simp

end Go.Proofs.YtlmhdebjmkcanabDoor.ints
namespace Go.Proofs.YtlmhdebjmkcanabDoor.sha
open Go.RowKit Go.Joins
open Go.Proofs.YtlmhdebjmkcanabDoor.base Go.Proofs.YtlmhdebjmkcanabDoor.ints Go.Proofs.YtlmhdebjmkcanabDoor.blk
set_option linter.unusedVariables false

/-- a row of numbers of one kind in a block of its own -/
def rowF (k : IntKind) (ty : TypeId) (n : Nat) (g : Nat → Int) : Obj := .cells ((List.range n).map fun i => Value.int k (g i)).toArray ty (0, 0)
def upd (g : Nat → Int) (j : Nat) (z : Int) : Nat → Int := fun i => if i = j then z else g i

theorem rowF_cell {w : World} {b : Nat} {k : IntKind} {ty : TypeId} {n : Nat} {g : Nat → Int} (h : w.heap[b]? = some (rowF k ty n g)) {i : Nat} (hi : i < n) : w.cell? ⟨b, i, none⟩ = some (.int k (g i)) := by
  rw [cell_of_block h]; simp [hi]
theorem rowF_free {w : World} {b : Nat} {k : IntKind} {ty : TypeId} {n : Nat} {g : Nat → Int} (h : w.heap[b]? = some (rowF k ty n g)) (i : Nat) : w.frozen? ⟨b, i, none⟩ = false := unfrozen_of_block h i
theorem rowF_set {w : World} {b : Nat} {k : IntKind} {ty : TypeId} {n : Nat} {g : Nat → Int} (h : w.heap[b]? = some (rowF k ty n g)) (i : Nat) (z : Int) : (w.setCell ⟨b, i, none⟩ (.int k z)).heap[b]? = some (rowF k ty n (upd g i z)) := by
  have e := block_setCell (i := i) h (.int k z)
  rw [e]
  unfold rowF
  congr 2
  apply Array.ext
  · simp
  · intro j h1 h2
    simp at h2
    simp [upd]
    by_cases e2 : i = j
    · subst e2; simp
    · have e3 : ¬ j = i := fun e => e2 e.symm
      simp [e2, e3]
theorem rowF_congr {k : IntKind} {ty : TypeId} {n : Nat} {g g' : Nat → Int} (h : ∀ i, i < n → g i = g' i) : rowF k ty n g = rowF k ty n g' := by
  unfold rowF
  congr 2
  apply List.map_congr_left
  intro i hi
  rw [h i (by simpa using hi)]

/-- a Hash as a value -/
def hash (a : Option Addr) (n cap : Nat) (r : ByteArray) (size : Int) : Value := .agg #[.slice a n cap, .string r, .int .i64 size]
/-- the answer's variable, still empty -/
def zeroH : Obj := .cells #[.slice none 0 0, .string ⟨#[]⟩, .int .i64 0] 95

/-- the state at first -/
def startL : List Int := [0x6a09e667, 0xbb67ae85, 0x3c6ef372, 0xa54ff53a, 0x510e527f, 0x9b05688c, 0x1f83d9ab, 0x5be0cd19]
def start (i : Nat) : Int := startL.getD i 0
def fn (zs : List Int) (i : Nat) : Int := zs.getD i 0
/-- eight numbers as a list -/
def list8 (f : Nat → Int) : List Int := (List.range 8).map f
theorem rd8 {w : World} {g : Nat} {f : Nat → Int} (h : ∀ i, i < 8 → w.cell? ⟨g, i, none⟩ = some (.int .i64 (f i))) : Rd w (some ⟨g, 0, none⟩) (list8 f) := by
  intro i z hz
  unfold list8 at hz
  rw [List.getElem?_map] at hz
  by_cases h8 : i < 8
  · rw [List.getElem?_range h8] at hz
    simp at hz
    subst hz
    exact ⟨g, 0, rfl, by simpa using h i h8⟩
  · rw [List.getElem?_eq_none (by simp; omega)] at hz
    simp at hz
theorem list8_len (f : Nat → Int) : (list8 f).length = 8 := by simp [list8]
theorem rd_fn {w : World} {b0 off : Nat} {zs : List Int} (h : Rd w (some ⟨b0, off, none⟩) zs) (h8 : zs.length = 8) : ∀ i, i < 8 → w.cell? ⟨b0, off + i, none⟩ = some (.int .i64 (fn zs i)) := by
  intro i hi
  obtain ⟨z, hz⟩ : ∃ z, zs[i]? = some z := ⟨_, List.getElem?_eq_getElem (by omega)⟩
  obtain ⟨b, o, e, hc⟩ := h i z hz
  simp at e
  obtain ⟨rfl, rfl⟩ := e
  rw [hc]
  simp [fn, List.getD, hz]
end Go.Proofs.YtlmhdebjmkcanabDoor.sha
namespace Go.Proofs.YtlmhdebjmkcanabDoor.sha
open Go.RowKit Go.Joins
open Go.Proofs.YtlmhdebjmkcanabDoor.base Go.Proofs.YtlmhdebjmkcanabDoor.word Go.Proofs.YtlmhdebjmkcanabDoor.ints
set_option linter.unusedVariables false

def s0 (x : Int) : Int := X (X (rot x 7) (rot x 18)) (x / 8)
def s1 (x : Int) : Int := X (X (rot x 17) (rot x 19)) (x / 1024)
def S1 (x : Int) : Int := X (X (rot x 6) (rot x 11)) (rot x 25)
def S0 (x : Int) : Int := X (X (rot x 2) (rot x 13)) (rot x 22)
def ch (e f g : Int) : Int := X (N e f) (N (X 4294967295 e) g)
def maj (a b c : Int) : Int := X (X (N a b) (N a c)) (N b c)

/-- word i, reckoned in at most n steps back -/
def Wn (f : Nat → Int) : Nat → Nat → Int
  | 0, i => f i
  | n + 1, i => if i < 16 then f i else A (A (A (Wn f n (i - 16)) (s0 (Wn f n (i - 15)))) (Wn f n (i - 7))) (s1 (Wn f n (i - 2)))
/-- word i of a block whose first sixteen words are f -/
def W (f : Nat → Int) (i : Nat) : Int := Wn f i i
theorem Wn_fuel (f : Nat → Int) : ∀ n m i, i ≤ n → i ≤ m → Wn f n i = Wn f m i
  | 0, 0, i, _, _ => rfl
  | 0, m + 1, i, h, _ => by
    obtain rfl : i = 0 := by omega
    simp [Wn]
  | n + 1, 0, i, _, h => by
    obtain rfl : i = 0 := by omega
    simp [Wn]
  | n + 1, m + 1, i, h1, h2 => by
    by_cases h : i < 16
    · rw [Wn, Wn, if_pos h, if_pos h]
    · rw [Wn, Wn, if_neg h, if_neg h, Wn_fuel f n m (i - 16) (by omega) (by omega), Wn_fuel f n m (i - 15) (by omega) (by omega), Wn_fuel f n m (i - 7) (by omega) (by omega), Wn_fuel f n m (i - 2) (by omega) (by omega)]
theorem W_low (f : Nat → Int) {i : Nat} (h : i < 16) : W f i = f i := by
  unfold W
  cases i with
  | zero => rfl
  | succ k => rw [Wn, if_pos h]
theorem W_next (f : Nat → Int) {i : Nat} (h : 16 ≤ i) : W f i = A (A (A (W f (i - 16)) (s0 (W f (i - 15)))) (W f (i - 7))) (s1 (W f (i - 2))) := by
  obtain ⟨k, rfl⟩ : ∃ k, i = k + 1 := ⟨i - 1, by omega⟩
  unfold W
  rw [Wn_fuel f (k + 1 - 16) k _ (by omega) (by omega), Wn_fuel f (k + 1 - 15) k _ (by omega) (by omega), Wn_fuel f (k + 1 - 7) k _ (by omega) (by omega), Wn_fuel f (k + 1 - 2) k _ (by omega) (by omega), Wn, if_neg (by omega)]

def keys : List Int := [0x428a2f98, 0x71374491, 0xb5c0fbcf, 0xe9b5dba5, 0x3956c25b, 0x59f111f1, 0x923f82a4, 0xab1c5ed5,
  0xd807aa98, 0x12835b01, 0x243185be, 0x550c7dc3, 0x72be5d74, 0x80deb1fe, 0x9bdc06a7, 0xc19bf174,
  0xe49b69c1, 0xefbe4786, 0x0fc19dc6, 0x240ca1cc, 0x2de92c6f, 0x4a7484aa, 0x5cb0a9dc, 0x76f988da,
  0x983e5152, 0xa831c66d, 0xb00327c8, 0xbf597fc7, 0xc6e00bf3, 0xd5a79147, 0x06ca6351, 0x14292967,
  0x27b70a85, 0x2e1b2138, 0x4d2c6dfc, 0x53380d13, 0x650a7354, 0x766a0abb, 0x81c2c92e, 0x92722c85,
  0xa2bfe8a1, 0xa81a664b, 0xc24b8b70, 0xc76c51a3, 0xd192e819, 0xd6990624, 0xf40e3585, 0x106aa070,
  0x19a4c116, 0x1e376c08, 0x2748774c, 0x34b0bcb5, 0x391c0cb3, 0x4ed8aa4a, 0x5b9cca4f, 0x682e6ff3,
  0x748f82ee, 0x78a5636f, 0x84c87814, 0x8cc70208, 0x90befffa, 0xa4506ceb, 0xbef9a3f7, 0xc67178f2]
def key (i : Nat) : Int := keys.getD i 0

/-- the numbers of the rounds are there: the program's variable -/
def GV (w : World) : Prop := ∀ i, i < 64 → w.cell? ⟨0, i, none⟩ = some (.int .u32 (key i))
theorem GV.lt {w : World} (h : GV w) : 0 < w.heap.size := World.block_lt_of_cell? w _ (h 0 (by omega))
theorem GV.below {w w' : World} {B : Nat} (h : GV w) (hb : Below B w w') (hB : 0 < B) : GV w' := fun i hi => by
  rw [hb.cell (p := ⟨0, i, none⟩) hB]; exact h i hi
theorem GV.at {w w' : World} (h : GV w) (hb : Below w.heap.size w w') : GV w' := h.below hb h.lt

/-- a to h -/
structure Regs where
  a : Int
  b : Int
  c : Int
  d : Int
  e : Int
  f : Int
  g : Int
  h : Int
def t1 (r : Regs) (k w : Int) : Int := A (A (A (A r.h (S1 r.e)) (ch r.e r.f r.g)) k) w
def t2 (r : Regs) : Int := A (S0 r.a) (maj r.a r.b r.c)
def round (r : Regs) (k w : Int) : Regs := ⟨A (t1 r k w) (t2 r), r.a, r.b, r.c, A r.d (t1 r k w), r.e, r.f, r.g⟩
def rounds (f : Nat → Int) (r : Regs) : Nat → Regs
  | 0 => r
  | i + 1 => round (rounds f r i) (key i) (W f i)

/-- the state of eight numbers as registers -/
def regs (st : Nat → Int) : Regs := ⟨U (st 0), U (st 1), U (st 2), U (st 3), U (st 4), U (st 5), U (st 6), U (st 7)⟩
def nth (r : Regs) : Nat → Int
  | 0 => r.a | 1 => r.b | 2 => r.c | 3 => r.d | 4 => r.e | 5 => r.f | 6 => r.g | _ => r.h
/-- a block taken into a state -/
def block (st : Nat → Int) (f : Nat → Int) (i : Nat) : Int := A (U (st i)) (nth (rounds f (regs st) 64) i)
end Go.Proofs.YtlmhdebjmkcanabDoor.sha
namespace Go.Proofs.YtlmhdebjmkcanabDoor.aid
open Go.RowKit Go.Joins
open Go.Proofs.YtlmhdebjmkcanabDoor.base Go.Proofs.YtlmhdebjmkcanabDoor.blk
set_option linter.unusedVariables false

theorem ret_eq {a b : Value} (h : a = b) : Ending.returned a = Ending.returned b := by rw [h]
theorem re {w w' w1 : World} (h : Below w'.heap.size w' w1) (h1 : w'.os = w.os) (h2 : w'.tape = w.tape) (h3 : w'.output = w.output) (h4 : w'.heap = w.heap) : Below w.heap.size w w1 :=
  ⟨h.os.trans h1, h.tape.trans h2, h.output.trans h3, h4 ▸ h.size, fun k hk => (h.block k (h4.symm ▸ hk)).trans (by rw [h4])⟩
theorem grew_re {w w' w1 : World} {r : Option Nat} (h : w.grownBy w' r) (h1 : w1.os = w'.os) (h2 : w1.tape = w'.tape) (h3 : w1.output = w'.output) (h4 : w1.heap = w'.heap) : w.grownBy w1 r :=
  ⟨h1.trans h.os, h2.trans h.tape, h3.trans h.output, h4.symm ▸ h.size, fun k hk hne => (congrArg (fun x => x[k]?) h4).trans (h.block k hk hne)⟩
theorem grew_from {w w' w1 : World} {r : Option Nat} (h : w'.grownBy w1 r) (h1 : w'.os = w.os) (h2 : w'.tape = w.tape) (h3 : w'.output = w.output) (h4 : w'.heap = w.heap) : w.grownBy w1 r :=
  ⟨h.os.trans h1, h.tape.trans h2, h.output.trans h3, h4 ▸ h.size, fun k hk hne => (h.block k (h4.symm ▸ hk) hne).trans (congrArg (fun x => x[k]?) h4)⟩
theorem grew_refl (w : World) (r : Option Nat) : w.grownBy w r := ⟨rfl, rfl, rfl, Nat.le_refl _, fun _ _ _ => rfl⟩
theorem grew_below {w w' w2 : World} {r : Option Nat} (h : w.grownBy w' r) (hb : Below w'.heap.size w' w2) : w.grownBy w2 r :=
  ⟨hb.os.trans h.os, hb.tape.trans h.tape, hb.output.trans h.output, Nat.le_trans h.size hb.size, fun k hk hne => (hb.block k (Nat.lt_of_lt_of_le hk h.size)).trans (h.block k hk hne)⟩
theorem below_grew {w w' : World} (hb : Below w.heap.size w w') (r : Option Nat) : w.grownBy w' r :=
  ⟨hb.os, hb.tape, hb.output, hb.size, fun k hk _ => hb.block k hk⟩
theorem grew_grew {w w' w2 : World} {r : Option Nat} (h : w.grownBy w' r) (h2 : w'.grownBy w2 r) : w.grownBy w2 r :=
  ⟨h2.os.trans h.os, h2.tape.trans h.tape, h2.output.trans h.output, Nat.le_trans h.size h2.size, fun k hk hne => (h2.block k (Nat.lt_of_lt_of_le hk h.size) hne).trans (h.block k hk hne)⟩
theorem grew_cell (w : World) (g i : Nat) (v : Value) : w.grownBy (w.setCell ⟨g, i, none⟩ v) (some g) :=
  ⟨rfl, rfl, rfl, by simp, fun k hk hne => Below.heap_setCell _ _ _ k (fun e => hne (by simp at e; rw [e]))⟩
/-- what grows in a block that was made from B on leaves all below B as it was -/
theorem below_of_grew {B g : Nat} {w w1 w2 : World} (hb : Below B w w1) (hs : B ≤ w1.heap.size) (hg : w1.grownBy w2 (some g)) (hB : B ≤ g) : Below B w w2 :=
  hb.grown hg hs (fun k hk => by cases hk; exact hB)
theorem cel1 {w : World} {g : Nat} {a : Value} {t : TypeId} {z : Nat × Nat} (h : w.heap[g]? = some (.cells #[a] t z)) : w.cell? ⟨g, 0, none⟩ = some a := by
  simp [World.cell?, h]
theorem cel2 {w : World} {g : Nat} {a b : Value} {t : TypeId} {z : Nat × Nat} (h : w.heap[g]? = some (.cells #[a, b] t z)) : w.cell? ⟨g, 0, none⟩ = some a ∧ w.cell? ⟨g, 1, none⟩ = some b := by
  simp [World.cell?, h]
theorem cel3 {w : World} {g : Nat} {a b c : Value} {t : TypeId} {z : Nat × Nat} (h : w.heap[g]? = some (.cells #[a, b, c] t z)) : w.cell? ⟨g, 0, none⟩ = some a ∧ w.cell? ⟨g, 1, none⟩ = some b ∧ w.cell? ⟨g, 2, none⟩ = some c := by
  simp [World.cell?, h]
theorem cel4 {w : World} {g : Nat} {a b c d : Value} {t : TypeId} {z : Nat × Nat} (h : w.heap[g]? = some (.cells #[a, b, c, d] t z)) : w.cell? ⟨g, 0, none⟩ = some a ∧ w.cell? ⟨g, 1, none⟩ = some b ∧ w.cell? ⟨g, 2, none⟩ = some c ∧ w.cell? ⟨g, 3, none⟩ = some d := by
  simp [World.cell?, h]
theorem unfrozen {w : World} {g : Nat} {cs : Array Value} {t : TypeId} (h : w.heap[g]? = some (.cells cs t)) (j : Nat) : w.frozen? ⟨g, j, none⟩ = false := by
  simp [World.frozen?, h]
theorem below_cell {B g i : Nat} {w w1 : World} (hb : Below B w w1) (hB : B ≤ g) (hs : B ≤ w1.heap.size) (v : Value) : Below B w (w1.setCell ⟨g, i, none⟩ v) := below_of_grew hb hs (grew_cell w1 g i v) hB
theorem below_set3 {B g : Nat} {w w1 : World} (hb : Below B w w1) (hB : B ≤ g) (hs : B ≤ w1.heap.size) (a b c : Value) : Below B w (((w1.setCell ⟨g, 0, none⟩ a).setCell ⟨g, 1, none⟩ b).setCell ⟨g, 2, none⟩ c) :=
  below_cell (below_cell (below_cell hb hB hs a) hB (by simpa using hs) b) hB (by simpa using hs) c
theorem slice_is (s : ByteArray) (a n : Nat) (h : a + n ≤ s.size) (wx : World) : (Instr.slice 9 (.string s) (some (.int .i64 (a : Int))) (some (.int .i64 ((a : Int) + (n : Int)))) none).run Tryd.prog wx = .ok (.string (s.extract a (a + n))) wx := by
  have h1 := run_slice_string (P := Tryd.prog) wx 9 s .i64 .i64 (a : Int) ((a : Int) + (n : Int)) Tryd.underlying9 (by omega) (by omega) (by omega)
  rw [h1]
  congr 3
end Go.Proofs.YtlmhdebjmkcanabDoor.aid
namespace Go.Proofs.YtlmhdebjmkcanabDoor.kind
open Go.RowKit Go.Joins
open Go.Proofs.YtlmhdebjmkcanabDoor.base Go.Proofs.YtlmhdebjmkcanabDoor.blk Go.Proofs.YtlmhdebjmkcanabDoor.aid
set_option linter.unusedVariables false

def kindB (k : Int) : Bool := decide (k = 1) || decide (k = 2)
theorem kind_any (k : Int) (w : World) :
    Calls Tryd.prog 46 #[.int .i64 k] w fun e w' => e = .returned (.bool (kindB k)) ∧ w' = w := by
  by_cases h1 : k = 1
  · subst h1
    go_enter Tryd.func46, Tryd.ntmps46
    go_wp2
    go_ret
    exact ⟨rfl, rfl⟩
  by_cases h2 : k = 2
  · subst h2
    go_enter Tryd.func46, Tryd.ntmps46
    go_wp2
    go_ret
    exact ⟨rfl, rfl⟩
  have e1 : (k == 1) = false := by simpa using h1
  have e2 : (k == 2) = false := by simpa using h2
  have e : kindB k = false := by simp [kindB, h1, h2]
  rw [e]
  go_enter Tryd.func46, Tryd.ntmps46
  go_wp2
  go_ret
  exact ⟨rfl, rfl⟩
end Go.Proofs.YtlmhdebjmkcanabDoor.kind
