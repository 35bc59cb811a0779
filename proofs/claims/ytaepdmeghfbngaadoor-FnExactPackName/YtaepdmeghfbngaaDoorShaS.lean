/-
  What spec.l05Block answers and leaves. Conditions: a state of eight numbers, which lie in memory; a text of 64 bytes.
-/
import Derived.Test.YtaepdmeghfbngaaDoorKeys
import Derived.Deep.RegionHeld3
namespace Go.Proofs.YtaepdmeghfbngaaDoor.sha
open Go.RowKit Go.Joins
open Go.Proofs.YtaepdmeghfbngaaDoor.base Go.Proofs.YtaepdmeghfbngaaDoor.word Go.Proofs.YtaepdmeghfbngaaDoor.ints Go.Proofs.YtaepdmeghfbngaaDoor.blk
open Go.PlainAid (bt get_bt bt_nonneg bt_le)
set_option linter.unusedVariables false
attribute [local go_sem] M_fold O_fold A_fold X_fold N_fold

/-- the first k words are there, the rest is 0 -/
def upto (g : Nat → Int) (k : Nat) : Nat → Int := fun j => if j < k then g j else 0
theorem upto_next (g : Nat → Int) (k : Nat) : upd (upto g k) k (g k) = upto g (k + 1) := by
  funext j
  unfold upd upto
  by_cases h : j = k
  · subst h; simp
  · by_cases h2 : j < k
    · simp [h, h2]; omega
    · simp [h, h2]; omega

theorem info37 : (Tryd.prog.info? 42).map (fun i => (i.zero, i.size, i.bytes)) = some (some (.int .u32 0), 1, 4) := by kernel_rfl
theorem run_make_words (u : World) : (Instr.makeSlice 41 (.int .i64 64) (.int .i64 64)).run Tryd.prog u =
    .ok (.slice (some ⟨u.heap.size, 0, none⟩) 64 64) (u.alloc (rowF .u32 42 64 (fun _ => 0))) := by
  obtain ⟨i0, hi, hz0, hz1, hz2⟩ := info_parts info37
  have h := run_make (P := Tryd.prog) u 41 42 i0 (.int .u32 0) Tryd.underlying41 hi hz0 .i64 .i64 (64 : Int) (64 : Int) (by omega) (Int.le_refl _) (by rw [hz2]; omega) (by omega)
  have e : madeCells #[Value.int .u32 0] 64 = ((List.range 64).map fun _ => Value.int .u32 0).toArray := by
    apply Array.ext
    · simp [madeCells]
    · intro i h1 h2
      simp [madeCells, Nat.mod_one]
  unfold rowF
  rw [← e]
  simpa [hz1, Value.cells] using h

/-- append, folded: so that a fact of its run, laid ahead of a region, is met -/
def appSem (ts : Array TypeId) (ty : TypeId) (vs : Array Value) : Sem Value := Builtin.append_ ts ty vs
theorem app_fold (ts : Array TypeId) (ty : TypeId) (vs : Array Value) : Builtin.append_ ts ty vs = appSem ts ty vs := rfl
attribute [local go_sem ↓] app_fold
theorem like {B : Nat} {w a b : World} (h : Below B w a) (h1 : b.os = a.os) (h2 : b.tape = a.tape) (h3 : b.output = a.output) (h4 : b.heap = a.heap) : Below B w b :=
  ⟨h1.trans h.os, h2.trans h.tape, h3.trans h.output, by rw [h4]; exact h.size, fun k hk => by rw [h4]; exact h.block k hk⟩
theorem ownsRow_form {w : World} {base e n : Nat} {v : Value} {xs : List Value} (h : w.ownsRow base e 1 v n xs) (hn : 0 < n) : ∃ g c, v = .slice (some ⟨g, 0, none⟩) n c := by
  obtain ⟨_, h2⟩ := h
  rcases h2 with ⟨_, h0⟩ | ⟨g, cap, cur, rfl, _⟩
  · omega
  · exact ⟨g, cap, rfl⟩
theorem A_bd (a b : Int) : 0 ≤ A a b ∧ A a b ≤ 4294967295 := by
  unfold A
  simp [IntKind.wrap, IntKind.bits, IntKind.signed]
  omega

theorem wrap_sub {k j c : Nat} (h : k = j + c) (hk : k ≤ 64) : IntKind.i64.wrap ((k : Int) - (c : Int)) = (j : Int) := by
  have e : (k : Int) - (c : Int) = (j : Int) := by omega
  rw [e]
  simp [IntKind.wrap, IntKind.bits, IntKind.signed]
  omega
theorem cell_else {w : World} {b i j : Nat} {x v : Value} (h : w.cell? ⟨b, j, none⟩ = some v) (hne : i ≠ j) : (w.setCell ⟨b, i, none⟩ x).cell? ⟨b, j, none⟩ = some v := by
  exact (World.cell?_setCell_other w _ _ _ (fun e => hne (by injection e))).trans h

/-- a row of eight numbers of its own is the answer -/
def BPost (w : World) (f : Nat → Int) (e : Ending) (w' : World) : Prop :=
  ∃ g c, e = .returned (.slice (some ⟨g, 0, none⟩) 8 c) ∧ w.heap.size ≤ g ∧ (∀ i, i < 8 → w'.cell? ⟨g, i, none⟩ = some (.int .i64 (f i))) ∧ Below w.heap.size w w'
theorem bpost_of {w w' : World} {E : Nat} {v : Value} {f : Nat → Int} (hE : w.heap.size ≤ E) (hb : Below w.heap.size w w') (h : w'.ownsRow E 2 1 v 8 ((List.range 8).map fun i => Value.int .i64 (f i))) : BPost w f (.returned v) w' := by
  obtain ⟨g, c, rfl⟩ := ownsRow_form h (by omega)
  refine ⟨g, c, rfl, ?_, fun i hi => ?_, hb⟩
  · have := (h.lt g rfl).1
    omega
  · have := h.cells rfl i (.int .i64 (f i)) (by simp [hi])
    rw [Addr.add_lit, Nat.zero_add] at this
    exact this
theorem below_app {B base e : Nat} {w wr w1 : World} {v : Value} {n : Nat} {xs : List Value} {o : Obj} (hB : B ≤ wr.heap.size) (hle : B ≤ base) (hbel : Below B w wr) (hown : wr.ownsRow base e 1 v n xs) (hg : (wr.alloc o).grownBy w1 v.ownBlock) : Below B w w1 :=
  (hbel.alloc hB o).grown hg (by simp; omega) (fun k hk => by have := (hown.lt k hk).1; omega)
theorem blk_grown {wr w1 : World} {r : Option Nat} {j : Nat} {x : Obj} (h : wr.heap[j]? = some x) (hne : r ≠ some j) {o : Obj} (hg : (wr.alloc o).grownBy w1 r) : w1.heap[j]? = some x := by
  have hj : j < wr.heap.size := (Array.getElem?_eq_some_iff.1 h).1
  exact (hg.block j (by simp; omega) (fun e => hne e.symm)).trans ((Below.heap_alloc wr o j hj).trans h)
theorem range_snoc (f : Nat → Int) (k : Nat) : ((List.range (k + 1)).map fun i => Value.int .i64 (f i)) = ((List.range k).map fun i => Value.int .i64 (f i)) ++ [Value.int .i64 (f k)] := by
  rw [List.range_succ, List.map_append]; rfl

set_option maxRecDepth 100000 in
set_option maxHeartbeats 1000000 in
theorem block_any (b0 off cap : Nat) (z : Nat → Int) (s : ByteArray) (w : World) (hs : s.size = 64) (hr : ∀ i, i < 8 → w.cell? ⟨b0, off + i, none⟩ = some (.int .i64 (z i))) :
    Calls Tryd.prog 17 #[.slice (some ⟨b0, off, none⟩) 8 cap, .string s] w fun e w' => BPost w (block z (wordAt s)) e w' := by
  have hmk := run_make_words
  have hb := get_bt s
  go_enter Tryd.func17, Tryd.ntmps17
  go_wp2
  clear hmk
  go_loopw [6] (fun i wr => ∃ k : Nat, k ≤ 16 ∧ i = .int .i64 k ∧ Hid (wr.heap[w.heap.size]? = some (rowF .u32 42 64 (upto (W (wordAt s)) k))) ∧ Below w.heap.size w wr)
    (fun i _ => 16 - (intOf i).toNat)
  case atStart => exact ⟨0, Nat.zero_le _, rfl, mkHid (heap_alloc_new w _), (Below.refl _ _).alloc (Nat.le_refl _) _⟩
  case round =>
    obtain ⟨k, hk, rfl, hrow, hbel⟩ := hrel
    by_cases hlt : k < 16
    · have hcell : wr.cell? ⟨w.heap.size, k, none⟩ = some (.int .u32 0) := by rw [rowF_cell hrow.out (by omega)]; simp [upto]
      have hf : wr.frozen? ⟨w.heap.size, k, none⟩ = false := rowF_free hrow.out k
      have N1 := rowF_set hrow.out k (W (wordAt s) k)
      rw [upto_next, W_low _ hlt] at N1
      unfold wordAt b8 at N1
      have N2 := mkHid N1
      clear N1 hrow
      go_wp2
      go_region
      go_wp2
      go_roundw
      case rel => exact ⟨k + 1, by omega, by go_num, mkHid N2.out, (hbel.setCell (p := ⟨w.heap.size, k, none⟩) (Nat.le_refl _) _).drew⟩
      case measure => simp [intOf]; omega
    · have hrow := mkHid (show wr.heap[w.heap.size]? = some (rowF .u32 42 64 (upto (W (wordAt s)) 16)) by have h := hrow.out; rwa [show k = 16 by omega] at h)
      go_wp2
      go_loopw [7] (fun i wr => ∃ k : Nat, 16 ≤ k ∧ k ≤ 64 ∧ i = .int .i64 k ∧ Hid (wr.heap[w.heap.size]? = some (rowF .u32 42 64 (upto (W (wordAt s)) k))) ∧ Below w.heap.size w wr)
        (fun i _ => 64 - (intOf i).toNat)
      case atStart => exact ⟨16, by omega, by omega, rfl, hrow, hbel⟩
      case round =>
        clear hrow hbel
        obtain ⟨k, hk0, hk, rfl, hrow, hbel⟩ := hrel
        by_cases hlt : k < 64
        · have hcell : wr.cell? ⟨w.heap.size, k, none⟩ = some (.int .u32 0) := by rw [rowF_cell hrow.out (by omega)]; simp [upto]
          have hf : wr.frozen? ⟨w.heap.size, k, none⟩ = false := rowF_free hrow.out k
          obtain ⟨j16, e16⟩ : ∃ j, k = j + 16 := ⟨k - 16, by omega⟩
          obtain ⟨j15, e15⟩ : ∃ j, k = j + 15 := ⟨k - 15, by omega⟩
          obtain ⟨j7, e7⟩ : ∃ j, k = j + 7 := ⟨k - 7, by omega⟩
          obtain ⟨j2, e2⟩ : ∃ j, k = j + 2 := ⟨k - 2, by omega⟩
          have N1 := rowF_set hrow.out k (W (wordAt s) k)
          rw [upto_next, W_next _ hk0, show k - 16 = j16 by omega, show k - 15 = j15 by omega, show k - 7 = j7 by omega, show k - 2 = j2 by omega] at N1
          have r16 : wr.cell? ⟨w.heap.size, j16, none⟩ = some (.int .u32 (W (wordAt s) j16)) := by rw [rowF_cell hrow.out (by omega)]; simp [upto]; omega
          have r15 : wr.cell? ⟨w.heap.size, j15, none⟩ = some (.int .u32 (W (wordAt s) j15)) := by rw [rowF_cell hrow.out (by omega)]; simp [upto]; omega
          have r7 : wr.cell? ⟨w.heap.size, j7, none⟩ = some (.int .u32 (W (wordAt s) j7)) := by rw [rowF_cell hrow.out (by omega)]; simp [upto]; omega
          have r2 : wr.cell? ⟨w.heap.size, j2, none⟩ = some (.int .u32 (W (wordAt s) j2)) := by rw [rowF_cell hrow.out (by omega)]; simp [upto]; omega
          have w16 : IntKind.i64.wrap ((k : Int) - 16) = (j16 : Int) := wrap_sub e16 hk
          have w15 : IntKind.i64.wrap ((k : Int) - 15) = (j15 : Int) := wrap_sub e15 hk
          have w7 : IntKind.i64.wrap ((k : Int) - 7) = (j7 : Int) := wrap_sub e7 hk
          have w2 : IntKind.i64.wrap ((k : Int) - 2) = (j2 : Int) := wrap_sub e2 hk
          have b16 : (j16 : Int) < 64 := by omega
          have b15 : (j15 : Int) < 64 := by omega
          have b7 : (j7 : Int) < 64 := by omega
          have b2 : (j2 : Int) < 64 := by omega
          have bk : (k : Int) < 64 := by omega
          have T := mkHid (fun x k (wx : World) (h0 : 0 ≤ k) (h1 : k ≤ 32) => turn_any x k wx h0 h1)
          unfold s0 s1 at N1
          have n16 : k ≠ j16 := by omega
          have n7 : k ≠ j7 := by omega
          clear hrow e16 e15 e7 e2
          generalize W (wordAt s) j16 = x16 at *
          generalize W (wordAt s) j15 = x15 at *
          generalize W (wordAt s) j7 = x7 at *
          generalize W (wordAt s) j2 = x2 at *
          have N2 := mkHid N1
          clear N1
          go_wp2_with fail
          go_region_held3 (fun w' => w'.cell? ⟨w.heap.size, j16, none⟩ = some (.int .u32 x16) ∧ w'.cell? ⟨w.heap.size, j7, none⟩ = some (.int .u32 x7)) (first | (go_keep; done) | exact ⟨cell_else r16 n16, cell_else r7 n7⟩ | (trace_state; fail))
            ((first | (go_at_call 25; refine (T.out _ _ _ (by omega) (by omega)).mono ?_; rintro e w1 ⟨rfl, rfl⟩)))
          go_wp2
          go_roundw
          case rel => exact ⟨k + 1, by omega, by omega, by go_num, mkHid N2.out, (hbel.setCell (p := ⟨w.heap.size, k, none⟩) (Nat.le_refl _) _).drew⟩
          case measure => simp [intOf]; omega
        · have hrow := mkHid (show wr.heap[w.heap.size]? = some (rowF .u32 42 64 (upto (W (wordAt s)) 64)) by have h := hrow.out; rwa [show k = 64 by omega] at h)
          have hcs : ∀ i, i < 8 → wr.cell? ⟨b0, off + i, none⟩ = some (.int .i64 (z i)) := fun i hi => by
            rw [hbel.cell (p := ⟨b0, off + i, none⟩) (World.block_lt_of_cell? w _ (hr i hi)), hr i hi]
          have c0 : wr.cell? ⟨b0, off, none⟩ = some (.int .i64 (z 0)) := hcs 0 (by omega)
          have c1 := hcs 1 (by omega)
          have c2 := hcs 2 (by omega)
          have c3 := hcs 3 (by omega)
          have c4 := hcs 4 (by omega)
          have c5 := hcs 5 (by omega)
          have c6 := hcs 6 (by omega)
          have c7 := hcs 7 (by omega)
          clear hcs
          go_wp2_with fail
          go_quiet (fail)
          go_wp2_with fail
          go_quiet (fail)
          go_wp2_with fail
          refine (keys_any _).mono ?_
          rintro e w1 ⟨rfl, rfl⟩
          have K0 := blk_old hrow.out (rowF .u32 42 64 key)
          have K1 := blk_new wr (rowF .u32 42 64 key) wr.heap.size rfl
          have KK := mkHid (And.intro K0 (And.intro K1 (hbel.alloc hbel.size (rowF .u32 42 64 key))))
          generalize hD : wr.heap.size = D at *
          clear K0 K1 hrow hbel c0 c1 c2 c3 c4 c5 c6 c7
          go_wp2
          go_loopw [10, 11, 12, 13, 14, 15, 16, 17, 19] (fun va vb vc vd ve vf vg vh i wr => ∃ (k : Nat) (r : Regs), k ≤ 64 ∧ i = .int .i64 k ∧ r = rounds (wordAt s) (regs z) k ∧ va = .int .u32 r.a ∧ vb = .int .u32 r.b ∧ vc = .int .u32 r.c ∧ vd = .int .u32 r.d ∧ ve = .int .u32 r.e ∧ vf = .int .u32 r.f ∧ vg = .int .u32 r.g ∧ vh = .int .u32 r.h ∧ Hid (wr.heap[w.heap.size]? = some (rowF .u32 42 64 (upto (W (wordAt s)) 64)) ∧ wr.heap[D]? = some (rowF .u32 42 64 key) ∧ Below w.heap.size w wr))
            (fun va vb vc vd ve vf vg vh i _ => 64 - (intOf i).toNat)
          case atStart => exact ⟨0, _, Nat.zero_le _, rfl, rfl, rfl, rfl, rfl, rfl, rfl, rfl, rfl, rfl, mkHid ⟨KK.out.1, KK.out.2.1, like KK.out.2.2 rfl rfl rfl rfl⟩⟩
          case round =>
            obtain ⟨k, r, hk, rfl, hrr, rfl, rfl, rfl, rfl, rfl, rfl, rfl, rfl, hM⟩ := hrel
            by_cases hlt : k < 64
            · have ck : wr.cell? ⟨D, k, none⟩ = some (.int .u32 (key k)) := rowF_cell hM.out.2.1 hlt
              have cw : wr.cell? ⟨w.heap.size, k, none⟩ = some (.int .u32 (W (wordAt s) k)) := by rw [rowF_cell hM.out.1 hlt]; simp [upto, hlt]
              have bk : (k : Int) < 64 := by omega
              have T := mkHid (fun x k (wx : World) (h0 : 0 ≤ k) (h1 : k ≤ 32) => turn_any x k wx h0 h1)
              have HN := mkHid (show round r (key k) (W (wordAt s) k) = rounds (wordAt s) (regs z) (k + 1) by rw [hrr]; rfl)
              clear hrr
              generalize W (wordAt s) k = wk at *
              generalize key k = kk at *
              obtain ⟨ra, rb, rc, rd, re, rf, rg, rh⟩ := r
              dsimp only at *
              go_wp2_with fail
              go_quiet ((go_at_call 25; refine Calls.quiet_of_same (T.out _ _ _ (by omega) (by omega))))
              go_wp2_with ((go_at_call 25; refine (T.out _ _ _ (by omega) (by omega)).mono ?_; rintro e w1 ⟨rfl, rfl⟩))
              go_roundw
              case rel => exact ⟨k + 1, _, by omega, by go_num, HN.out, rfl, rfl, rfl, rfl, rfl, rfl, rfl, rfl, mkHid ⟨hM.out.1, hM.out.2.1, like hM.out.2.2 rfl rfl rfl rfl⟩⟩
              case measure => simp [intOf]; omega
            · have hM2 := mkHid hM.out.2.2
              have HN := mkHid (show r = rounds (wordAt s) (regs z) 64 by rw [hrr, show k = 64 by omega])
              clear hM hrr
              obtain ⟨ra, rb, rc, rd, re, rf, rg, rh⟩ := r
              dsimp only at *
              obtain ⟨E, hE⟩ : ∃ E, E = wr.heap.size := ⟨_, rfl⟩
              have hwE : w.heap.size ≤ E := by rw [hE]; exact hM2.out.size
              have K0 := mkHid (blk_old (blk_new wr (.cells #[.int .u32 ra, .int .u32 rb, .int .u32 rc, .int .u32 rd, .int .u32 re, .int .u32 rf, .int .u32 rg, .int .u32 rh] 42) E hE) (.cells #[] 2))
              have K1 := mkHid (World.ownsRow_made (base := E + 1) (e := 2) (size := 1) (wr.alloc (.cells #[.int .u32 ra, .int .u32 rb, .int .u32 rc, .int .u32 rd, .int .u32 re, .int .u32 rf, .int .u32 rg, .int .u32 rh] 42)) #[] 0 (by simp; omega) (by decide) rfl)
              have K1 := mkHid (by have k1 := K1.out; simp at k1; rw [← hE] at k1; exact k1)
              have K2 := mkHid ((hM2.out.alloc hM2.out.size (.cells #[.int .u32 ra, .int .u32 rb, .int .u32 rc, .int .u32 rd, .int .u32 re, .int .u32 rf, .int .u32 rg, .int .u32 rh] 42)).alloc (by simp; omega) (.cells #[] 2))
              clear hM2
              go_wp2
              rw [← hE]
              have K3 := mkHid (And.intro K0.out (And.intro K1.out K2.out))
              clear K0 K1 K2
              generalize ((wr.alloc _).alloc _) = WW at *
              clear hE
              go_loopw [23, 24] (fun v i wr => ∃ (k : Nat) (va : Option Addr) (vc : Nat), k ≤ 8 ∧ i = .int .i64 k ∧ v = .slice va k vc ∧ Hid (wr.ownsRow (E + 1) 2 1 (.slice va k vc) k ((List.range k).map fun i => Value.int .i64 (block z (wordAt s) i))) ∧ Hid (wr.heap[E]? = some (rowF .u32 42 8 (nth ⟨ra, rb, rc, rd, re, rf, rg, rh⟩)) ∧ Below w.heap.size w wr))
                (fun _ i _ => 8 - (intOf i).toNat)
              case atStart => exact ⟨0, _, _, Nat.zero_le _, rfl, rfl, mkHid K3.out.2.1, mkHid ⟨K3.out.1, K3.out.2.2⟩⟩
              case round =>
                obtain ⟨k, va, vc, hk, rfl, rfl, hown, hK⟩ := hrel
                by_cases hlt : k < 8
                · have c0 : wr.cell? ⟨b0, off + k, none⟩ = some (.int .i64 (z k)) := (hK.out.2.cell (p := ⟨b0, off + k, none⟩) (World.block_lt_of_cell? w _ (hr k hlt))).trans (hr k hlt)
                  have c1 : wr.cell? ⟨E, k, none⟩ = some (.int .u32 (nth ⟨ra, rb, rc, rd, re, rf, rg, rh⟩ k)) := rowF_cell hK.out.1 hlt
                  have hv := mkHid (show block z (wordAt s) k = A (z k % 4294967296) (nth ⟨ra, rb, rc, rd, re, rf, rg, rh⟩ k) by unfold block; rw [HN.out]; rfl)
                  generalize nth ⟨ra, rb, rc, rd, re, rf, rg, rh⟩ k = nk at c1 hv
                  generalize z k = zk at c0 hv
                  obtain ⟨y, hy⟩ : ∃ y, A (zk % 4294967296) nk = y := ⟨_, rfl⟩
                  have y0 : 0 ≤ y ∧ y ≤ 4294967295 := by rw [← hy]; exact A_bd _ _
                  obtain ⟨y0, y1⟩ := y0
                  obtain ⟨i0, hi, hz0, hz1, hz2⟩ := info_parts info2
                  obtain ⟨v', w2, happ0, hown2, hgrow, _⟩ := run_append_own (P := Tryd.prog) (wr.alloc (.cells #[.int .i64 y] 2)).drew (E + 1) 26 26 2 i0 (.int .i64 0) 1 8 Tryd.underlying26 hi hz0 hz1 hz2 rfl (by decide) (.slice va k vc) k _ (hown.out.alloc _) ⟨wr.heap.size, 0, none⟩ 1 1 [.int .i64 y] rfl (by intro j u hj; match j, hj with | 0, hj => simp at hj; subst hj; simp [Addr.add]) (by intro u hu; simp at hu; subst hu; rfl) (by unfold maxLen; omega) (by omega) (by show _ ≤ (wr.alloc _).heap.size; have := (Array.getElem?_eq_some_iff.1 hK.out.1).1; simp; omega)
                  obtain ⟨g', c', rfl⟩ := ownsRow_form hown2 (by omega)
                  have happ : (appSem #[26, 26] 26 #[.slice va k vc, .slice (some ⟨wr.heap.size, 0, none⟩) 1 1]).run Tryd.prog (wr.alloc (.cells #[.int .i64 y] 2)).drew = .ok (.slice (some ⟨g', 0, none⟩) (k + 1) c') w2 := happ0
                  have hg2 : (wr.alloc (.cells #[.int .i64 y] 2)).grownBy w2 (Value.slice va k vc).ownBlock := ⟨hgrow.os, hgrow.tape, hgrow.output, hgrow.size, hgrow.block⟩
                  have B2 := mkHid (below_app (by have := (Array.getElem?_eq_some_iff.1 hK.out.1).1; omega) (by omega) hK.out.2 hown.out hg2)
                  have K2 := mkHid (blk_grown hK.out.1 (fun e => by have := (hown.out.lt E e).1; omega) hg2)
                  have O2 : Hid (w2.ownsRow (E + 1) 2 1 (.slice (some ⟨g', 0, none⟩) (k + 1) c') (k + 1) ((List.range (k + 1)).map fun i => Value.int .i64 (block z (wordAt s) i))) := mkHid (by rw [range_snoc, hv.out, hy]; exact hown2)
                  have bk : (k : Int) < 8 := by omega
                  clear hown hK hown2 hgrow hg2 happ0
                  go_wp2
                  go_region
                  go_wp2
                  go_roundw
                  case rel => exact ⟨k + 1, _, _, by omega, by go_num, rfl, O2, mkHid ⟨K2.out, B2.out⟩⟩
                  case measure => simp [intOf]; omega
                · obtain rfl : k = 8 := by omega
                  go_wp2
                  go_ret
                  exact bpost_of (by omega) hK.out.2 hown.out
end Go.Proofs.YtaepdmeghfbngaaDoor.sha
