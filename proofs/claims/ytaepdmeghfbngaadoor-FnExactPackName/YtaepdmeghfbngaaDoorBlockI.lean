/-
  What impl.takeBlock answers and leaves. Conditions: a text of 64 bytes; the variable impl.roundNumbers holds the numbers of the rounds.
-/
import Derived.Test.YtaepdmeghfbngaaDoorWordsI
import Derived.Deep.RegionWith
namespace Go.Proofs.YtaepdmeghfbngaaDoor.shaI
open Go.RowKit Go.Joins
open Go.Proofs.YtaepdmeghfbngaaDoor.base Go.Proofs.YtaepdmeghfbngaaDoor.word Go.Proofs.YtaepdmeghfbngaaDoor.ints Go.Proofs.YtaepdmeghfbngaaDoor.blk
open Go.Proofs.YtaepdmeghfbngaaDoor.sha (Regs S0 S1 s0 s1 ch maj t2 t1 nth key W rounds upd rowF rowF_cell rowF_free rowF_set rowF_congr W_low W_next b8 wordAt GV GV.below GV.lt)
set_option linter.unusedVariables false
attribute [local go_sem] M_fold O_fold A_fold X_fold N_fold
theorem ld8_fold (v : Value) : Instr.loadAt 45 v = ldA 45 v := rfl
theorem st8_fold (a v : Value) : Instr.storeAt 45 a v = stA 45 a v := rfl
theorem al8_fold : Instr.alloc 45 true (.tuple #[]) = alA 45 := rfl
attribute [local go_sem ↓] ld64_fold st64_fold al64_fold ld8_fold st8_fold al8_fold

theorem info8 : (Tryd.prog.info? 45).map (fun i => (i.zero, i.size)) = some (some (.agg (arr 8 fun _ => 0)), 8) := by kernel_rfl
theorem run_al8 (u : World) : (alA 45).run Tryd.prog u = .ok (.pointer (some ⟨u.heap.size, 0, none⟩)) (u.alloc (rowF .u32 45 8 fun _ => 0)) := by
  obtain ⟨h1, h2⟩ := zero_of_info info8
  unfold alA Instr.alloc
  rw [Sem.run_bind, h1]
  simp [newVar, newRow, Value.cells]
  rfl
theorem run_ldv8 {w : World} {b : Nat} {g : Nat → Int} (h : w.heap[b]? = some (rowF .u32 45 8 g)) : (loadVar 45 ⟨b, 0, none⟩).run Tryd.prog w = .ok (.agg (arr 8 g)) w := by
  obtain ⟨h1, h2⟩ := zero_of_info info8
  exact run_loadVar_row w b _ _ (arr 8 g) (0, 0) _ h Tryd.underlying45 rfl (by rw [h2, arr_size])
theorem run_ld8 {w : World} {b : Nat} {g : Nat → Int} (h : w.heap[b]? = some (rowF .u32 45 8 g)) : (ldA 45 (.pointer (some ⟨b, 0, none⟩))).run Tryd.prog w = .ok (.agg (arr 8 g)) w := by
  unfold ldA
  simp only [Instr.loadAt, Instr.sureAddr, Sem.run_bind, Sem.run_pure, Result.andThen_ok]
  exact run_ldv8 h
theorem run_st8 {w : World} {b : Nat} {g g' : Nat → Int} (h : w.heap[b]? = some (rowF .u32 45 8 g)) : (stA 45 (.pointer (some ⟨b, 0, none⟩)) (.agg (arr 8 g'))).run Tryd.prog w = .ok () (w.setRow b (arr 8 g')) := by
  obtain ⟨h1, h2⟩ := zero_of_info info8
  unfold stA
  simp only [Instr.storeAt, Instr.sureAddr, Sem.run_bind, Sem.run_pure, Result.andThen_ok]
  exact run_storeVar_row w b _ _ (arr 8 g) (arr 8 g') h (by rw [h2, arr_size]) (by rw [arr_size, arr_size]) (arr_one _ _)
theorem run_st8_new (u : World) (g g' : Nat → Int) : (stA 45 (.pointer (some ⟨u.heap.size, 0, none⟩)) (.agg (arr 8 g'))).run Tryd.prog (u.alloc (rowF .u32 45 8 g)) = .ok () (u.alloc (rowF .u32 45 8 g')) := by
  rw [run_st8 (blk_new u _ _ rfl)]
  unfold rowF
  rw [World.setRow_alloc_new]
  rfl
theorem run_st64_new (u : World) (g g' : Nat → Int) : (stA 48 (.pointer (some ⟨u.heap.size, 0, none⟩)) (.agg (arr 64 g'))).run Tryd.prog (u.alloc (rowF .u32 48 64 g)) = .ok () (u.alloc (rowF .u32 48 64 g')) := by
  rw [run_st64 (blk_new u _ _ rfl)]
  unfold rowF
  rw [World.setRow_alloc_new]
  rfl

/-- eight numbers as registers -/
def regs8 (z : Nat → Int) : Regs := ⟨z 0, z 1, z 2, z 3, z 4, z 5, z 6, z 7⟩
theorem nth_regs8 (z : Nat → Int) : ∀ i, i < 8 → nth (regs8 z) i = z i := by
  intro i hi
  match i, hi with
  | 0, _ => rfl
  | 1, _ => rfl
  | 2, _ => rfl
  | 3, _ => rfl
  | 4, _ => rfl
  | 5, _ => rfl
  | 6, _ => rfl
  | 7, _ => rfl
/-- the first k numbers are sums -/
def sums (z r : Nat → Int) (k : Nat) : Nat → Int := fun i => if i < k then A (z i) (r i) else z i
theorem sums_next (z r : Nat → Int) (k : Nat) : upd (sums z r k) k (A (z k) (r k)) = sums z r (k + 1) := by
  funext j
  unfold upd sums
  by_cases h : j = k
  · subst h; simp
  · by_cases h2 : j < k
    · simp [h, h2]; omega
    · simp [h, h2]; omega

/-- what stands in memory -/
structure Tb (w : World) (D : Nat) (z f r : Nat → Int) (wr : World) : Prop where
  below : Below w.heap.size w wr
  box : wr.heap[w.heap.size]? = some (rowF .u32 45 8 z)
  res : wr.heap[w.heap.size + 1]? = some (rowF .u32 45 8 fun _ => 0)
  wrd : wr.heap[D]? = some (rowF .u32 48 64 (W f))
  reg : wr.heap[D + 1]? = some (rowF .u32 45 8 r)
theorem Tb.next {w wr w' : World} {D : Nat} {z f r : Nat → Int} (h : Tb w D z f r wr) (hb : Below wr.heap.size wr w') : Tb w D z f r w' :=
  ⟨h.below.trans (hb.mono h.below.size), blk_below h.box hb, blk_below h.res hb, blk_below h.wrd hb, blk_below h.reg hb⟩
theorem Tb.same {w wr w' : World} {D : Nat} {z f r : Nat → Int} (h : Tb w D z f r wr) (h1 : w'.os = wr.os) (h2 : w'.tape = wr.tape) (h3 : w'.output = wr.output) (h4 : w'.heap = wr.heap) : Tb w D z f r w' :=
  ⟨like h.below h1 h2 h3 h4, by rw [h4]; exact h.box, by rw [h4]; exact h.res, by rw [h4]; exact h.wrd, by rw [h4]; exact h.reg⟩
theorem Tb.put {w wr : World} {D : Nat} {z f r : Nat → Int} (h : Tb w D z f r wr) (hD : w.heap.size + 1 < D) (r' : Nat → Int) : Tb w D z f r' (wr.setRow (D + 1) (arr 8 r')) :=
  ⟨below_setRow h.below (by omega) _, (setRow_other wr _ _ _ (by omega)).trans h.box, (setRow_other wr _ _ _ (by omega)).trans h.res, (setRow_other wr _ _ _ (by omega)).trans h.wrd, setRow_heap wr _ _ _ _ _ h.reg⟩
theorem Tb.add {w wr : World} {D : Nat} {z f r : Nat → Int} (h : Tb w D z f r wr) (hD : w.heap.size + 1 < D) (i : Nat) (x : Int) : Tb w D (upd z i x) f r (wr.setCell ⟨w.heap.size, i, none⟩ (.int .u32 x)) :=
  ⟨h.below.setCell (by simp) _, rowF_set h.box i x, blk_set h.res _ _ (by simp), blk_set h.wrd _ _ (by simp; omega), blk_set h.reg _ _ (by simp; omega)⟩

set_option maxRecDepth 100000 in
set_option maxHeartbeats 1000000 in
theorem block_any (z : Nat → Int) (s : ByteArray) (w : World) (hs : s.size = 64) (hG : GV w) :
    Calls Tryd.prog 27 #[.agg (arr 8 z), .string s] w fun e w' => e = .returned (.agg (arr 8 fun i => A (z i) (nth (rounds (wordAt s) (regs8 z) 64) i))) ∧ Below w.heap.size w w' := by
  have hal := run_al8
  have hal64 := run_al64
  have hst := run_st8_new
  have hst64 := run_st64_new
  have GG := mkHid hG
  clear hG
  go_enter Tryd.func27, Tryd.ntmps27
  go_wp2_with fail
  refine (words_any s _ hs).mono ?_
  rintro e w1 ⟨rfl, hb1⟩
  have k0 := blk_below (blk_old (blk_new w (.cells (arr 8 z) 45) w.heap.size rfl) (rowF .u32 45 8 fun _ => 0)) hb1
  have k1 := blk_below (blk_new (w.alloc (.cells (arr 8 z) 45)) (rowF .u32 45 8 fun _ => 0) (w.heap.size + 1) (by simp)) hb1
  have b1 := below_allocs (os := [_, _]) hb1
  have hl : ∀ o, (ldA 45 (.pointer (some ⟨w.heap.size, 0, none⟩))).run Tryd.prog (w1.alloc o) = .ok (.agg (arr 8 z)) (w1.alloc o) := fun o => run_ld8 (blk_old k0 o)
  have hD : w.heap.size + 1 < w1.heap.size := (Array.getElem?_eq_some_iff.1 k1).1
  have T0 : Hid (Tb w w1.heap.size z (wordAt s) (nth (rounds (wordAt s) (regs8 z) 0)) ((w1.alloc (rowF .u32 48 64 (W (wordAt s)))).alloc (rowF .u32 45 8 z))) :=
    mkHid ⟨((b1.alloc b1.size _).alloc (by simp; omega) _), blk_old (blk_old k0 _) _, blk_old (blk_old k1 _) _, blk_old (blk_new w1 _ _ rfl) _, (blk_new _ _ _ (by simp)).trans (congrArg some (rowF_congr (fun i hi => (nth_regs8 z i hi).symm)))⟩
  have hst2 : ∀ o, (stA 45 (.pointer (some ⟨w1.heap.size + 1, 0, none⟩)) (.agg (arr 8 z))).run Tryd.prog ((w1.alloc o).alloc (rowF .u32 45 8 fun _ => 0)) = .ok () ((w1.alloc o).alloc (rowF .u32 45 8 z)) := fun o => by
    have h := run_st8_new (w1.alloc o) (fun _ => 0) z
    simpa using h
  have hG1 : Hid (∀ wx, Below w.heap.size w wx → GV wx) := mkHid (fun wx hb => GG.out.below hb GG.out.lt)
  clear k0 k1 b1 hb1 GG
  go_wp2
  clear hl hst2 hal hal64 hst hst64
  generalize w1.heap.size = D at *
  go_loopw [12] (fun i wr => ∃ k : Nat, k ≤ 64 ∧ i = .int .i64 k ∧ Hid (Tb w D z (wordAt s) (nth (rounds (wordAt s) (regs8 z) k)) wr))
    (fun i _ => 64 - (intOf i).toNat)
  case atStart => exact ⟨0, Nat.zero_le _, rfl, T0⟩
  case round =>
    clear T0
    obtain ⟨k, hk, rfl, hT⟩ := hrel
    by_cases hlt : k < 64
    · have hki : (k : Int) < 64 := by omega
      have hg : wr.cell? ⟨0, k, none⟩ = some (.int .u32 (key k)) := hG1.out _ hT.out.below k hlt
      have hw : wr.cell? ⟨D, k, none⟩ = some (.int .u32 (W (wordAt s) k)) := rowF_cell hT.out.wrd hlt
      have l1 := run_ld8 hT.out.reg
      have l2 := run_ld8 (w := wr.drew) hT.out.reg
      have hR : Hid (∀ wx, Calls Tryd.prog 31 #[.agg (arr 8 (nth (rounds (wordAt s) (regs8 z) k))), .int .u32 (A (key k) (W (wordAt s) k))] wx fun e w' => e = .returned (.agg (arr 8 (nth (rounds (wordAt s) (regs8 z) (k + 1))))) ∧ Below wx.heap.size wx w') := mkHid (fun wx => by
        have h := round_any (rounds (wordAt s) (regs8 z) k) (A (key k) (W (wordAt s) k)) wx
        rw [mix_round] at h
        exact h)
      go_wp2
      go_region_with (go_at_call 31; refine (hR.out _).mono ?_; rintro e w2 ⟨rfl, hb2⟩; have b2 : Below wr.heap.size wr w2 := ⟨hb2.os, hb2.tape, hb2.output, hb2.size, hb2.block⟩; have T2 := hT.out.next b2; have s2 := run_st8 (g' := nth (rounds (wordAt s) (regs8 z) (k + 1))) T2.reg; have T3 := mkHid (T2.put hD (nth (rounds (wordAt s) (regs8 z) (k + 1)))); clear hb2 b2 T2)
      all_goals go_wp2
      all_goals exact ⟨⟨k + 1, by omega, by go_num, T3⟩, by simp [intOf]; omega⟩
    · have hT2 : Hid (Tb w D (sums z (nth (rounds (wordAt s) (regs8 z) 64)) 0) (wordAt s) (nth (rounds (wordAt s) (regs8 z) 64)) wr) := by
        have e : k = 64 := by omega
        have h := hT.out
        rw [e] at h
        exact mkHid ⟨h.below, h.box.trans (congrArg some (rowF_congr (fun i hi => by simp [sums]))), h.res, h.wrd, h.reg⟩
      clear hT
      obtain ⟨r, hrE⟩ : ∃ r, r = nth (rounds (wordAt s) (regs8 z) 64) := ⟨_, rfl⟩
      rw [← hrE] at hT2
      have RE := mkHid hrE
      clear hrE
      go_wp2
      go_loopw [25] (fun i wr => ∃ k : Nat, k ≤ 8 ∧ i = .int .i64 k ∧ Hid (Tb w D (sums z r k) (wordAt s) r wr))
        (fun i _ => 8 - (intOf i).toNat)
      case atStart => exact ⟨0, Nat.zero_le _, rfl, hT2⟩
      case round =>
        clear hT2
        obtain ⟨k, hk, rfl, hT⟩ := hrel
        by_cases hlt : k < 8
        · have hki : (k : Int) < 8 := by omega
          have h1 : wr.cell? ⟨w.heap.size, k, none⟩ = some (.int .u32 (z k)) := by rw [rowF_cell hT.out.box hlt]; simp [sums]
          have h2 : wr.cell? ⟨D + 1, k, none⟩ = some (.int .u32 (r k)) := rowF_cell hT.out.reg hlt
          have hf : wr.frozen? ⟨w.heap.size, k, none⟩ = false := rowF_free hT.out.box k
          have N1 := hT.out.add hD k (A (z k) (r k))
          rw [sums_next] at N1
          have N2 := mkHid N1
          clear N1 hT
          go_wp2
          go_region
          go_wp2
          go_roundw
          case rel => exact ⟨k + 1, by omega, by go_num, mkHid (N2.out.same rfl rfl rfl rfl)⟩
          case measure => simp [intOf]; omega
        · have hT3 : Hid (Tb w D (fun i => A (z i) (r i)) (wordAt s) r wr) := by
            have e : k = 8 := by omega
            have h := hT.out
            rw [e] at h
            exact mkHid ⟨h.below, h.box.trans (congrArg some (rowF_congr (fun i hi => by simp [sums, hi]))), h.res, h.wrd, h.reg⟩
          clear hT
          have l1 := run_ld8 hT3.out.box
          have s1 := run_st8 (g' := fun i => A (z i) (r i)) hT3.out.res
          have hr := setRow_heap wr (w.heap.size + 1) _ (arr 8 fun i => A (z i) (r i)) _ _ hT3.out.res
          have hl := run_ldv8 hr
          go_wp2
          exact bodyPost_ret (v := .agg (arr 8 fun i => A (z i) (r i))) (by simp [results, Tryd.results27, asAddr, hl]) rfl ⟨by rw [RE.out], below_setRow hT3.out.below (by omega) _⟩
end Go.Proofs.YtaepdmeghfbngaaDoor.shaI
