/-
  The iterator of impl.piecesOf tells the pieces of a text one by one, and stops where a round says no more. Conditions: a right cutting; at most 20,000 bytes.
-/
import Derived.RangeFuncNested
import Derived.RangeFuncBound
import Derived.RangeFuncCalls
import Derived.RangeFuncLeaves
import Derived.RangeFuncBox
import Derived.Shelf.Abstract
import Derived.Shelf.RegionOpen
import Derived.WalkKit
import Derived.OwnWalkIn
import Derived.TacticsInMore
import Derived.LoopNIn
import Derived.LoopIn
import Derived.Test.YtbdkpcgmnppkgaaFirstI
import Derived.Test.YtbdkpcgmnppkgaaPiecesS
namespace Go.Proofs.Ytbdkpcgmnppkgaa.fingI
open Go.RowKit Go.Joins Go.Shelf
open Go.Proofs.Ytbdkpcgmnppkgaa.base Go.Proofs.Ytbdkpcgmnppkgaa.fing Go.Proofs.Ytbdkpcgmnppkgaa.blk
set_option linter.unusedVariables false
attribute [local go_sem] Oper.semAt_some

/-- the block of the cutting lies as it lay -/
def KpB (Bc : Nat) (W W' : World) : Prop := W'.heap[Bc]? = W.heap[Bc]?
/-- a piece: of no more than 20,000 bytes -/
abbrev Pc := { x : ByteArray // x.size ≤ 20000 }
def vals (l : List Pc) : List ByteArray := l.map (·.1)
def cutO (mn B mx : Nat) : Obj := .cells #[.int .i64 (mn : Int), .int .i64 (B : Int), .int .i64 (mx : Int)] 29
theorem below_grown {w w' : World} (h : Below w.heap.size w w') : w.grownBy w' none := ⟨h.os, h.tape, h.output, h.size, fun k hk _ => h.block k hk⟩

set_option maxRecDepth 100000 in
set_option maxHeartbeats 1000000 in
theorem seq_in (n : Nat) (hn : 1 ≤ n) (l Bt Bc : Nat) (mn B mx : Nat) (s : ByteArray) (h1 : 16 ≤ mn) (h2 : mn ≤ 1000) (h3 : B ≤ 12) (h4 : mn ≤ mx) (h5 : mx ≤ 2000) (hs : s.size ≤ 20000) (J Jx : List Pc → World → Prop) (W : World) (hJ : AbidesFrom W.heap.size J)
    (hY : ∀ pre x W1, J pre W1 → pre.length < (pieces mn B mx s).length → YieldAt Fence.wide (n - 1) Try.prog l #[.string x.1] W1 fun e W' =>
      (e = .returned (.bool true) ∧ J (pre ++ [x]) W' ∧ KpB Bc W1 W') ∨ (e = .returned (.bool false) ∧ Jx (pre ++ [x]) W'))
    (hBt : W.cell? ⟨Bt, 0, none⟩ = some (.string s)) (hBc : W.heap[Bc]? = some (cutO mn B mx)) (h0 : J [] W) :
    CallsIn Fence.wide n Try.prog 50 #[.func (.yield l) #[] #[], .pointer (some ⟨Bt, 0, none⟩), .pointer (some ⟨Bc, 0, none⟩)] W fun e W' => (∃ v, e = .returned v) ∧
      ((∃ ys, vals ys = pieces mn B mx s ∧ J ys W') ∨ (∃ pre, vals pre <+: pieces mn B mx s ∧ Jx pre W')) := by
  have HF := mkHid (fun wx (t : ByteArray) (ht : t.size ≤ 20000) => first_any mn B mx t wx h1 h2 h3 h4 h5 ht)
  unfold cutV at HF
  have HY := mkHid hY
  have HJ := mkHid hJ
  clear hY hJ
  refine callsIn_of_wp Try.func50 rfl trivial ?_ rfl
  simp only [Try.ntmps50, List.size_toArray, List.length_cons, List.length_nil, Nat.reduceAdd, Nat.reduceSub, Array.replicate_succ, Array.replicate_zero, List.push_toArray, List.append_toArray, List.nil_append, List.cons_append]
  gi_wp2
  gi_loopw [4] (fun r wr => ∃ (pre : List Pc) (rest : ByteArray), r = .string rest ∧ rest.size ≤ 20000 ∧ Hid (pieces mn B mx s = vals pre ++ pieces mn B mx rest) ∧ Hid (wr.heap[Bc]? = some (cutO mn B mx)) ∧ Hid (J pre wr))
    (fun r _ => match r with | .string t => t.size | _ => 0)
  case atStart => exact ⟨[], s, rfl, hs, mkHid rfl, mkHid hBc, mkHid h0⟩
  case round =>
    clear hBt hBc h0
    obtain ⟨pre, rest, rfl, hr, hp, hb, hj⟩ := hrel
    by_cases hz : rest.size = 0
    · obtain rfl : rest = ⟨#[]⟩ := ByteArray.ext (Array.eq_empty_of_size_eq_zero hz)
      have E := mkHid (show vals pre = pieces mn B mx s by rw [hp.out, pieces_nil mn B mx ⟨#[]⟩ rfl, List.append_nil])
      gi_wp2
      go_end0
      exact ⟨⟨_, rfl⟩, .inl ⟨pre, E.out, hj.out⟩⟩
    · have hne : (rest.toList == []) = false := by
        rw [beq_eq_false_iff_ne, ByteArray.toList_eq]
        intro e
        exact hz (show rest.data.size = 0 by rw [← Array.length_toList, e]; rfl)
      obtain ⟨c0, c1, c2⟩ := cells3 hb.out
      gi_wp2_with (fail)
      refine ⟨trivial, ?_⟩
      refine (callsIn_wide.2 (HF.out _ rest hr)).mono ?_
      rintro e w1 ⟨rfl, hb1⟩
      have hbd := cutN_bd mn B mx rest h1 h4 (by omega)
      have hnext := mkHid (pieces_next mn B mx rest h1 h4 (by omega))
      generalize cutN mn B mx rest = k at *
      have hk1 : (k : Int) ≤ (rest.size : Int) := by omega
      have hk2 : 1 ≤ (k : Int) := by omega
      have hbc1 := mkHid (blk_below hb.out hb1)
      have hj1 := HJ.out pre wr w1 none hj.out (below_grown hb1) (fun r e => by cases e)
      obtain ⟨fn, tmps, assign, body, hy, hR⟩ := HY.out pre ⟨rest.extract 0 k, by simp; omega⟩ w1 hj1 (by rw [hp.out, hnext.out]; simp [vals])
      dsimp only at hy
      have HR := mkHid hR
      clear hb1 hb hj hj1 c0 c1 c2 hR
      gi_wp2
      refine HR.out.mono ?_
      rintro e W3 (⟨rfl, hJ3, hk3⟩ | ⟨rfl, hJx3⟩)
      · have hbc3 : Hid (W3.heap[Bc]? = some (cutO mn B mx)) := mkHid (Eq.trans hk3 hbc1.out)
        have HJ3 := mkHid hJ3
        clear hk3 hJ3 HR hy
        gi_wp2
        go_roundw
        case rel => exact ⟨_, rest.extract k rest.size, rfl, by simp; omega, mkHid (by rw [hp.out, hnext.out]; simp [vals]), hbc3, HJ3⟩
        case measure => simp; omega
      · gi_wp2
        refine bodyPost_ret (results_none rfl _ _ _) rfl ?_
        exact ⟨⟨_, rfl⟩, .inr ⟨_, ⟨pieces mn B mx (rest.extract k rest.size), by rw [hp.out, hnext.out]; simp [vals]⟩, hJx3⟩⟩

theorem seq_stops (n : Nat) (hn : 1 ≤ n) (Bt Bc : Nat) (mn B mx : Nat) (s : ByteArray) (w : World) (h1 : 16 ≤ mn) (h2 : mn ≤ 1000) (h3 : B ≤ 12) (h4 : mn ≤ mx) (h5 : mx ≤ 2000) (hs : s.size ≤ 20000)
    (hBt : w.heap[Bt]? = some (.cells #[.string s] 9)) (hBc : w.heap[Bc]? = some (cutO mn B mx)) :
    SeqStopsK Fence.wide n Try.prog 50 #[.pointer (some ⟨Bt, 0, none⟩), .pointer (some ⟨Bc, 0, none⟩)] (fun x : Pc => #[Value.string x.1]) (KpB Bc) (fun ys => vals ys = pieces mn B mx s) (fun pre => vals pre <+: pieces mn B mx s) (pieces mn B mx s).length w := fun l J Jx W hW hJ _ hY h0 =>
  seq_in n hn l Bt Bc mn B mx s h1 h2 h3 h4 h5 hs J Jx W hJ hY (cell_of_block (blk_below hBt hW) 0) (blk_below hBc hW) h0

theorem piecesOf_any (mn B mx : Nat) (s : ByteArray) (w : World) :
    Calls Try.prog 38 #[cutV mn B mx, .string s] w fun e w' => e = .returned (.func (.func 50) #[] #[.pointer (some ⟨w.heap.size + 1, 0, none⟩), .pointer (some ⟨w.heap.size, 0, none⟩)]) ∧ w' = (w.alloc (cutO mn B mx)).alloc (.cells #[.string s] 9) := by
  unfold cutV cutO
  go_enter Try.func38, Try.ntmps38
  go_wp2
  go_ret
  exact ⟨rfl, rfl⟩
end Go.Proofs.Ytbdkpcgmnppkgaa.fingI
