/-
  What impl.takeBlocks answers and leaves. Conditions: a state of eight numbers of 32 bits, which lie in memory; whole blocks, at most 2,000,000 bytes; the variable impl.roundNumbers holds the numbers of the rounds.
-/
import Derived.Test.YtaepdmeghfbngaaDoorBlockI
import Derived.Test.YtaepdmeghfbngaaDoorMoreS
namespace Go.Proofs.YtaepdmeghfbngaaDoor.shaI
open Go.RowKit Go.Joins
open Go.Proofs.YtaepdmeghfbngaaDoor.base Go.Proofs.YtaepdmeghfbngaaDoor.word Go.Proofs.YtaepdmeghfbngaaDoor.ints Go.Proofs.YtaepdmeghfbngaaDoor.blk
open Go.Proofs.YtaepdmeghfbngaaDoor.sha (Regs nth key W rounds upd rowF rowF_cell rowF_free rowF_set rowF_congr wordAt after block A_bd GV GV.below GV.lt)
set_option linter.unusedVariables false
attribute [local go_sem] M_fold O_fold A_fold X_fold N_fold
attribute [local go_sem ↓] ld64_fold st64_fold al64_fold ld8_fold st8_fold al8_fold

theorem U_low {x : Int} (h0 : 0 ≤ x) (h1 : x ≤ 4294967295) : U x = x := by unfold U; omega
theorem U_A (a b : Int) : U (A a b) = A a b := U_low (A_bd a b).1 (A_bd a b).2
theorem U_bd (x : Int) : 0 ≤ U x ∧ U x ≤ 4294967295 := by unfold U; omega
/-- the state behind k blocks, as numbers of 32 bits -/
def st (z : Nat → Int) (s : ByteArray) (k : Nat) : Nat → Int := fun i => U (after z s k i)
theorem st_next (z : Nat → Int) (s : ByteArray) (k : Nat) (i : Nat) : A (st z s k i) (nth (rounds (wordAt (s.extract (64 * k) (64 * k + 64))) (regs8 (st z s k)) 64) i) = st z s (k + 1) i := by
  have e : st z s (k + 1) i = U (block (after z s k) (wordAt (s.extract (64 * k) (64 * k + 64))) i) := rfl
  rw [e]
  unfold sha.block
  rw [U_A]
  rfl
/-- the first k numbers are those of the state -/
def low (z : Nat → Int) (k : Nat) : Nat → Int := fun i => if i < k then U (z i) else 0
theorem low_next (z : Nat → Int) (k : Nat) : upd (low z k) k (U (z k)) = low z (k + 1) := by
  funext j
  unfold upd low
  by_cases h : j = k
  · subst h; simp
  · by_cases h2 : j < k
    · simp [h, h2]; omega
    · simp [h, h2]; omega

/-- what stands in memory -/
structure Ts (w : World) (f : Nat → Int) (wr : World) : Prop where
  below : Below w.heap.size w wr
  box : wr.heap[w.heap.size]? = some (rowF .u32 45 8 f)
theorem Ts.next {w wr w' : World} {f : Nat → Int} (h : Ts w f wr) (hb : Below wr.heap.size wr w') : Ts w f w' := ⟨h.below.trans (hb.mono h.below.size), blk_below h.box hb⟩
theorem Ts.put {w wr : World} {f : Nat → Int} (h : Ts w f wr) (f' : Nat → Int) : Ts w f' (wr.setRow w.heap.size (arr 8 f')) := ⟨below_setRow h.below (Nat.le_refl _) _, setRow_heap wr _ _ _ _ _ h.box⟩
theorem Ts.set {w wr : World} {f : Nat → Int} (h : Ts w f wr) (i : Nat) (x : Int) : Ts w (upd f i x) (wr.setCell ⟨w.heap.size, i, none⟩ (.int .u32 x)) := ⟨h.below.setCell (by simp) _, rowF_set h.box i x⟩
theorem Ts.congr {w wr : World} {f f' : Nat → Int} (h : Ts w f wr) (e : ∀ i, i < 8 → f i = f' i) : Ts w f' wr := ⟨h.below, h.box.trans (congrArg some (rowF_congr e))⟩
/-- and the answer's row -/
structure To (w : World) (G : Nat) (f g : Nat → Int) (wr : World) : Prop where
  ts : Ts w f wr
  row : wr.heap[G]? = some (rowF .i64 2 8 g)
theorem To.set {w wr : World} {G : Nat} {f g : Nat → Int} (h : To w G f g wr) (hG : w.heap.size < G) (i : Nat) (x : Int) : To w G f (upd g i x) (wr.setCell ⟨G, i, none⟩ (.int .i64 x)) :=
  ⟨⟨h.ts.below.setCell (by simp; omega) _, blk_set h.ts.box _ _ (by simp; omega)⟩, rowF_set h.row i x⟩
def part8 (f : Nat → Int) (k : Nat) : Nat → Int := fun i => if i < k then f i else 0
theorem part8_next (f : Nat → Int) (k : Nat) : upd (part8 f k) k (f k) = part8 f (k + 1) := by
  funext j
  unfold upd part8
  by_cases h : j = k
  · subst h; simp
  · by_cases h2 : j < k
    · simp [h, h2]; omega
    · simp [h, h2]; omega
theorem run_make8 (u : World) : (Instr.makeSlice 26 (.int .i64 8) (.int .i64 8)).run Tryd.prog u = .ok (.slice (some ⟨u.heap.size, 0, none⟩) 8 8) (u.alloc (rowF .i64 2 8 fun _ => 0)) := run_make_ints 8 (by omega) u

/-- a row of eight numbers of its own is the answer -/
def TPost (w : World) (f : Nat → Int) (e : Ending) (w' : World) : Prop :=
  ∃ g, e = .returned (.slice (some ⟨g, 0, none⟩) 8 8) ∧ w.heap.size ≤ g ∧ w'.heap[g]? = some (rowF .i64 2 8 f) ∧ Below w.heap.size w w'

set_option maxRecDepth 100000 in
set_option maxHeartbeats 1000000 in
theorem take_any (b0 off cap : Nat) (z : Nat → Int) (s : ByteArray) (n : Nat) (w : World) (hs : s.size = 64 * n) (hn : s.size ≤ 2000000) (hr : ∀ i, i < 8 → w.cell? ⟨b0, off + i, none⟩ = some (.int .i64 (z i))) (hG : GV w) :
    Calls Tryd.prog 20 #[.slice (some ⟨b0, off, none⟩) 8 cap, .string s] w fun e w' => TPost w (st z s n) e w' := by
  have hal := run_al8
  have HR := mkHid hr
  have hG1 : Hid (∀ wx, Below w.heap.size w wx → GV wx) := mkHid (fun wx hb => hG.below hb hG.lt)
  have HS := mkHid hs
  clear hr hG hs
  go_enter Tryd.func20, Tryd.ntmps20
  go_wp2
  clear hal
  have T0 : Hid (Ts w (low z 0) (w.alloc (rowF .u32 45 8 fun _ => 0))) := mkHid ⟨below_alloc1 w _, blk_new w _ _ rfl⟩
  go_loopw [10] (fun i wr => ∃ k : Nat, k ≤ 8 ∧ i = .int .i64 k ∧ Hid (Ts w (low z k) wr))
    (fun i _ => 8 - (intOf i).toNat)
  case atStart => exact ⟨0, Nat.zero_le _, rfl, T0⟩
  case round =>
    clear T0
    obtain ⟨k, hk, rfl, hT⟩ := hrel
    by_cases hlt : k < 8
    · have hki : (k : Int) < 8 := by omega
      have h1 : wr.cell? ⟨b0, off + k, none⟩ = some (.int .i64 (z k)) := by
        have h := HR.out k hlt
        rw [hT.out.below.cell (p := ⟨b0, off + k, none⟩) (World.block_lt_of_cell? w _ h)]
        exact h
      have h2 : wr.cell? ⟨w.heap.size, k, none⟩ = some (.int .u32 0) := by rw [rowF_cell hT.out.box hlt]; simp [low]
      have hf : wr.frozen? ⟨w.heap.size, k, none⟩ = false := rowF_free hT.out.box k
      have N1 := hT.out.set k (U (z k))
      rw [low_next] at N1
      unfold U at N1
      have N2 := mkHid N1
      clear N1 hT
      go_wp2
      go_roundw
      case rel => exact ⟨k + 1, by omega, by go_num, N2⟩
      case measure => simp [intOf]; omega
    · have hT2 : Hid (Ts w (st z s 0) wr) := by
        have e : k = 8 := by omega
        have h := hT.out
        rw [e] at h
        exact mkHid (h.congr (fun i hi => by simp [low, hi, st, after]))
      clear hT
      have hsi : (s.size : Int) ≤ 2000000 := by omega
      go_wp2
      go_loopw [7] (fun i wr => ∃ (k at_ : Nat), k ≤ n ∧ i = .int .i64 at_ ∧ Hid (at_ = 64 * k) ∧ Hid (Ts w (st z s k) wr))
        (fun i _ => s.size - (intOf i).toNat)
      case atStart => exact ⟨0, 0, Nat.zero_le _, rfl, mkHid rfl, hT2⟩
      case round =>
        clear hT2
        obtain ⟨k, at_, hk, rfl, hat, hT⟩ := hrel
        by_cases hlt : k < n
        · have hle : (at_ : Int) + 64 ≤ (s.size : Int) := by have := hat.out; have := HS.out; omega
          have hlt' : (at_ : Int) < (s.size : Int) := by omega
          have hq : IntKind.i64.wrap ((at_ : Int) + 64) = (at_ : Int) + 64 := by simp [IntKind.wrap, IntKind.bits, IntKind.signed]; omega
          have hsl : ∀ wx, (Instr.slice 9 (.string s) (some (.int .i64 (at_ : Int))) (some (.int .i64 ((at_ : Int) + 64))) none).run Tryd.prog wx = .ok (.string (s.extract at_ (at_ + 64))) wx := fun wx => by
            rw [run_slice_string_if wx 9 s .i64 .i64 (at_ : Int) ((at_ : Int) + 64) Tryd.underlying9, if_pos ⟨by omega, by omega⟩, if_pos ⟨by omega, by omega⟩]
            rfl
          have l1 := run_ld8 hT.out.box
          have l2 := run_ld8 (w := wr.drew) hT.out.box
          have hB : Hid (∀ wx, GV wx → Calls Tryd.prog 27 #[.agg (arr 8 (st z s k)), .string (s.extract at_ (at_ + 64))] wx fun e w' => e = .returned (.agg (arr 8 (st z s (k + 1)))) ∧ Below wx.heap.size wx w') := mkHid (fun wx hg => by
            have h := block_any (st z s k) (s.extract at_ (at_ + 64)) wx (by simp; omega) hg
            rw [hat.out] at h ⊢
            rw [← arr_congr (fun i _ => st_next z s k i)]
            exact h)
          go_wp2
          go_region_with (go_at_call 27; refine (hB.out _ (by first | exact hG1.out _ hT.out.below | exact hG1.out _ hT.out.below.drew)).mono ?_; rintro e w2 ⟨rfl, hb2⟩; have b2 : Below wr.heap.size wr w2 := ⟨hb2.os, hb2.tape, hb2.output, hb2.size, hb2.block⟩; have T2 := hT.out.next b2; have s2 := run_st8 (g' := st z s (k + 1)) T2.box; have T3 := mkHid (T2.put (st z s (k + 1))); clear hb2 b2 T2)
          all_goals go_wp2
          all_goals exact ⟨⟨k + 1, at_ + 64, by omega, by go_num, mkHid (by have := hat.out; omega), T3⟩, by simp [intOf]; omega⟩
        · have hge : (s.size : Int) ≤ (at_ : Int) := by have := hat.out; have := HS.out; omega
          have hT2 : Hid (Ts w (st z s n) wr) := by
            have e : k = n := by omega
            rw [← e]
            exact hT
          clear hT
          have hmk := run_make8
          have T4 : Hid (To w wr.heap.size (st z s n) (part8 (st z s n) 0) (wr.alloc (rowF .i64 2 8 fun _ => 0))) := mkHid ⟨⟨hT2.out.below.alloc hT2.out.below.size _, blk_old hT2.out.box _⟩, blk_new wr _ _ rfl⟩
          have hGl : w.heap.size < wr.heap.size := (Array.getElem?_eq_some_iff.1 hT2.out.box).1
          have hbd : ∀ i, 0 ≤ st z s n i ∧ st z s n i ≤ 4294967295 := fun i => U_bd _
          clear hT2
          go_wp2
          clear hmk
          generalize wr.heap.size = G at *
          obtain ⟨f, hfE⟩ : ∃ f, f = st z s n := ⟨_, rfl⟩
          rw [← hfE] at T4 hbd
          have FE := mkHid hfE
          clear hfE
          go_loopw [35] (fun i wr => ∃ k : Nat, k ≤ 8 ∧ i = .int .i64 k ∧ Hid (To w G f (part8 f k) wr))
            (fun i _ => 8 - (intOf i).toNat)
          case atStart => exact ⟨0, Nat.zero_le _, rfl, T4⟩
          case round =>
            clear T4
            obtain ⟨k, hk, rfl, hT⟩ := hrel
            by_cases hlt : k < 8
            · have hki : (k : Int) < 8 := by omega
              have h1 : wr.cell? ⟨w.heap.size, k, none⟩ = some (.int .u32 (f k)) := rowF_cell hT.out.ts.box hlt
              have h2 : wr.cell? ⟨G, k, none⟩ = some (.int .i64 0) := by rw [rowF_cell hT.out.row hlt]; simp [part8]
              have hf : wr.frozen? ⟨G, k, none⟩ = false := rowF_free hT.out.row k
              have hx0 := (hbd k).1
              have hx1 := (hbd k).2
              have N1 := hT.out.set hGl k (f k)
              rw [part8_next] at N1
              have N2 := mkHid N1
              clear N1 hT
              go_wp2
              go_roundw
              case rel => exact ⟨k + 1, by omega, by go_num, N2⟩
              case measure => simp [intOf]; omega
            · have hT2 : Hid (To w G f f wr) := by
                have e : k = 8 := by omega
                have h := hT.out
                rw [e] at h
                exact mkHid ⟨h.ts, h.row.trans (congrArg some (rowF_congr (fun i hi => by simp [part8, hi])))⟩
              clear hT
              go_wp2
              go_ret
              exact ⟨G, rfl, by omega, by rw [← FE.out]; exact hT2.out.row, hT2.out.ts.below⟩

theorem after_bd (z : Nat → Int) (s : ByteArray) (hz : ∀ i, i < 8 → 0 ≤ z i ∧ z i ≤ 4294967295) : ∀ k i, i < 8 → U (after z s k i) = after z s k i := by
  intro k i hi
  cases k with
  | zero => exact U_low (hz i hi).1 (hz i hi).2
  | succ k => exact U_A _ _
end Go.Proofs.YtaepdmeghfbngaaDoor.shaI
