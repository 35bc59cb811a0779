/-
  Texts that are drawn: (*l01Src).bytes, one and spoil: what they answer and leave. Conditions: the source lies in one block of its own, and the sizes are small.
-/
import Derived.Test.YtfochhnaodgpeaaDoorSource
namespace Go.Proofs.YtfochhnaodgpeaaDoor.draw
open Go.RowKit
open Go.Proofs.YtfochhnaodgpeaaDoor.base
set_option linter.unusedVariables false

theorem info5 : (Tryd.prog.info? 5).map (fun i => (i.zero, i.size, i.bytes)) = some (some (.int .u8 0), 1, 1) := by kernel_rfl

theorem grown_trans {w w1 w2 : World} {r : Option Nat} (h : w.grownBy w1 r) (k : w1.grownBy w2 r) : w.grownBy w2 r :=
  ⟨k.os.trans h.os, k.tape.trans h.tape, k.output.trans h.output, Nat.le_trans h.size k.size, fun i hi hne => (k.block i (Nat.lt_of_lt_of_le hi h.size) hne).trans (h.block i hi hne)⟩
/-- new blocks, and writes to rows that are new -/
theorem grown_new {w w1 w2 : World} {r : Option Nat} (h : w.grownBy w1 r) (k : Below w.heap.size w1 w2) : w.grownBy w2 r :=
  ⟨k.os.trans h.os, k.tape.trans h.tape, k.output.trans h.output, Nat.le_trans h.size k.size, fun i hi hne => (k.block i hi).trans (h.block i hi hne)⟩
theorem grown_below {w w1 : World} {g B : Nat} (h : w.grownBy w1 (some g)) (hg : B ≤ g) (hB : B ≤ w.heap.size) : Below B w w1 :=
  ⟨h.os, h.tape, h.output, h.size, fun k hk => h.block k (by omega) (by simp; omega)⟩

/-- a text of n bytes is drawn -/
def DrewText (w : World) (g : Nat) (most : Nat) (e : Ending) (w' : World) : Prop :=
  ∃ t : ByteArray, e = .returned (.string t) ∧ t.size ≤ most ∧ SrcAt w' g ∧ w.grownBy w' (some g)

set_option maxRecDepth 100000 in
set_option maxHeartbeats 1000000 in
theorem bytes_any (g : Nat) (n : Nat) (w : World) (hn : n ≤ 100000) (h : SrcAt w g) :
    Calls Tryd.prog 73 #[.pointer (some ⟨g, 0, none⟩), .int .i64 n] w fun e w' => DrewText w g n e w' := by
  obtain ⟨i0, hi, hz0, hz1, hz2⟩ := info_parts info5
  have hgl := h.lt
  go_enter Tryd.func73, Tryd.ntmps73
  go_wp2_with fail
  go_loopw [5, 6] (fun v i wr => ∃ (k : Nat) (acc : List UInt8), k ≤ n ∧ i = .int .i64 (k : Int) ∧ Hid (acc.length = k) ∧ wr.ownsRow w.heap.size 5 1 v acc.length (acc.map byteV) ∧ Hid (SrcAt wr g ∧ w.grownBy wr (some g)))
    (fun _ i _ => n - (intOf i).toNat)
  case atStart => exact ⟨0, [], Nat.zero_le _, rfl, mkHid rfl, World.ownsRow_made _ _ _ (Nat.le_refl _) (by decide) rfl, mkHid ⟨h.below ((Below.refl _ _).alloc (Nat.le_refl _) _), World.grownBy_alloc _ _ _⟩⟩
  case round =>
    obtain ⟨k, acc, hk, rfl, hlen, hown, hs⟩ := hrel
    have hal : acc.length ≤ 100000 := by have := hlen.out; omega
    by_cases hlt : k < n
    · have hki : (k : Int) < (n : Int) := by omega
      go_wp2_with fail
      refine (n_any g 256 wr (by omega) hs.out.1).mono ?_
      rintro e w1 ⟨r, rfl, hr0, hr1, _, hs1, hg1⟩
      have hr2 : r ≤ 255 := by have := hr1 (by omega); omega
      clear hr1
      have hsz := hs.out.2.size
      have hsz1 := hg1.size
      have hown1 : w1.ownsRow w.heap.size 5 1 u5 acc.length (acc.map byteV) := hown.kept hg1 (by
        rcases hq : u5.ownBlock with _ | q
        · exact .inl rfl
        · exact .inr (by have := (hown.lt q hq).1; simp; omega))
      have HS1 := mkHid hs1
      have HG1 := mkHid (grown_trans hs.out.2 hg1)
      clear hs hg1 hs1 hown h
      go_wp2_with ((at_builtin; refine wpList_append_own _ rfl _ _ 22 rfl w.heap.size 5 i0 (.int .u8 0) 1 1 Tryd.underlying22 hi hz0 hz1 hz2 rfl (by decide) _ _ _ rfl (hown1.alloc _) ⟨w1.heap.size, 0, none⟩ 1 1 [.int .u8 r] rfl rfl ?c1 ?c2 ?c3 ?c4 ?c5 ?_))
      case c1 =>
        intro j u hj
        match j, hj with
        | 0, hj => simp at hj; subst hj; simp [Addr.add]
      case c2 => intro u hu; simp at hu; subst hu; rfl
      case c3 => unfold maxLen; omega
      case c4 => omega
      case c5 => simp; omega
      · intro v' w2 hown' hgrow _
        have r1 := row_more (UInt8.ofNat r.toNat) (by rw [toNat_ofNat (by omega)]; omega) hown'
        have hbl : Below w.heap.size w1 w2 := ((Below.refl w.heap.size w1).alloc (by omega) _).grown hgrow (by simp; omega) (fun k hk => (hown1.lt k hk).1)
        have R2 := mkHid (show SrcAt w2 g ∧ w.grownBy w2 (some g) from ⟨HS1.out.upto (hbl.mono (by omega)), grown_new HG1.out hbl⟩)
        have R3 := mkHid (show (acc ++ [UInt8.ofNat r.toNat]).length = k + 1 by simp [hlen.out])
        clear hown' hgrow hown1 HS1 HG1 hbl hlen
        go_wp2
        go_roundw
        case rel => exact ⟨k + 1, _, by omega, by go_num, R3, r1, R2⟩
        case measure => simp [intOf]; omega
    · obtain ⟨a, m, cap, hv, hconv⟩ := owns_string_any Tryd.underlying22 Tryd.underlying5 Tryd.underlying9 hown
      clear hown h
      subst hv
      go_wp2
      go_ret
      exact ⟨⟨acc.toArray⟩, rfl, by have := hlen.out; simp [ByteArray.size]; omega, hs.out.1, hs.out.2⟩

/-- a yes or no is drawn -/
def DrewBool (w : World) (g : Nat) (e : Ending) (w' : World) : Prop :=
  ∃ b : Bool, e = .returned (.bool b) ∧ SrcAt w' g ∧ w.grownBy w' (some g)

theorem one_any (g : Nat) (n : Int) (w : World) (hn : n ≤ 9223372036854775807) (h : SrcAt w g) :
    Calls Tryd.prog 65 #[.pointer (some ⟨g, 0, none⟩), .int .i64 n] w fun e w' => DrewBool w g e w' := by
  go_enter Tryd.func65, Tryd.ntmps65
  go_wp2_with fail
  refine (n_any g n w hn h).mono ?_
  rintro e w1 ⟨r, rfl, _, _, _, hs1, hg1⟩
  have H := mkHid (And.intro hs1 hg1)
  clear hs1 hg1 h
  go_wp2
  all_goals go_ret
  all_goals exact ⟨_, rfl, H.out.1, H.out.2⟩

end Go.Proofs.YtfochhnaodgpeaaDoor.draw
