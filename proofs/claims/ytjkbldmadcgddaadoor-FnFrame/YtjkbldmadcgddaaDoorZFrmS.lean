/-
  What spec.l09Frame answers and leaves. Condition: a text of at most 20,000 bytes.
  What spec.FrameRead and impl.FrameRead answer and leave. Conditions: a text of at most 1,048,576 bytes; for the program's: the numbers of the rounds are there.
-/
import Derived.Test.YtjkbldmadcgddaaDoorZFrmN
import Derived.Test.YtjkbldmadcgddaaDoorGetS
import Derived.Test.YtjkbldmadcgddaaDoorCells
namespace Go.Proofs.YtjkbldmadcgddaaDoor.frm
open Go.RowKit Go.Joins
open Go.Proofs.YtjkbldmadcgddaaDoor.base Go.Proofs.YtjkbldmadcgddaaDoor.blk Go.Proofs.YtjkbldmadcgddaaDoor.aid
open Go.Proofs.YtjkbldmadcgddaaDoor.row (appSem app_fold app1)
open Go.Proofs.YtjkbldmadcgddaaDoor.sha (digest)
set_option linter.unusedVariables false

def ix (l : List Int) : List Value := l.map (fun z => Value.int .i64 z)
theorem info64 : (Tryd.prog.info? 2).map (fun i => (i.zero, i.size, i.bytes)) = some (some (.int .i64 0), 1, 8) := by kernel_rfl
theorem app64 (W : World) (base : Nat) (v : Value) (k : Nat) (acc : List Int) (x : Int) (hn : acc.length = k) (hown : W.ownsRow base 2 1 v k (ix acc)) (hb : base ≤ W.heap.size) (hl : k ≤ 1048576) :
    ∃ g c w2, (appSem #[53, 53] 53 #[v, .slice (some ⟨W.heap.size, 0, none⟩) 1 1]).run Tryd.prog (W.alloc (.cells #[.int .i64 x] 2)) = .ok (.slice (some ⟨g, 0, none⟩) (k + 1) c) w2 ∧ w2.ownsRow base 2 1 (.slice (some ⟨g, 0, none⟩) (k + 1) c) (k + 1) (ix (acc ++ [x])) ∧ (W.alloc (.cells #[.int .i64 x] 2)).grownBy w2 v.ownBlock := by
  obtain ⟨g, c, w2, h1, h2, h3⟩ := app1 (W := W) (base := base) (S := 53) (T := 2) (size := 1) (bytes := 8) Tryd.underlying53 info64 rfl (by decide) v k (ix acc) [.int .i64 x] rfl (by intro u hu; simp at hu; subst hu; rfl) hown hb hl (by decide)
  exact ⟨g, c, w2, h1, by rw [show ix (acc ++ [x]) = ix acc ++ [.int .i64 x] by simp [ix]]; exact h2, h3⟩
/-- while the numbers are read -/
structure Rs (w : World) (l : List Int) (v : Value) (wr : World) : Prop where
  below : Below w.heap.size w wr
  b2 : wr.heap[w.heap.size]? = some zeroF
  b4 : wr.heap[w.heap.size + 1]? = some zeroF
  row : wr.ownsRow (w.heap.size + 2) 2 1 v l.length (ix l)
theorem Rs.size {w wr : World} {l : List Int} {v : Value} (h : Rs w l v wr) : w.heap.size + 2 ≤ wr.heap.size := (Array.getElem?_eq_some_iff.1 h.b4).1
theorem Rs.next {w wr w1 : World} {l : List Int} {v : Value} (h : Rs w l v wr) (hb : Below wr.heap.size wr w1) : Rs w l v w1 :=
  ⟨h.below.trans (hb.mono h.below.size), blk_below h.b2 hb, blk_below h.b4 hb, h.row.kept (below_grew hb none) (by cases hq : v.ownBlock <;> simp)⟩
theorem Rs.app {w wr : World} {l : List Int} {v : Value} (h : Rs w l v wr) (x : Int) (hl : l.length ≤ 1000) :
    ∃ q c w2, (appSem #[53, 53] 53 #[v, .slice (some ⟨wr.heap.size, 0, none⟩) 1 1]).run Tryd.prog (wr.alloc (.cells #[.int .i64 x] 2)) = .ok (.slice (some ⟨q, 0, none⟩) (l.length + 1) c) w2 ∧ Rs w (l ++ [x]) (.slice (some ⟨q, 0, none⟩) (l.length + 1) c) w2 ∧ wr.heap.size ≤ w2.heap.size ∧ ∀ k, k < wr.heap.size → v.ownBlock ≠ some k → w2.heap[k]? = wr.heap[k]? := by
  obtain ⟨q, c, w2, h1, h2, h3⟩ := app64 wr (w.heap.size + 2) v l.length l x rfl h.row h.size (by omega)
  have hz := h.size
  have hsz : (wr.alloc (.cells #[.int .i64 x] 2)).heap.size = wr.heap.size + 1 := by simp
  have hk : ∀ k, k < wr.heap.size → v.ownBlock ≠ some k → w2.heap[k]? = wr.heap[k]? := fun k hk hne => (h3.block k (by omega) (fun e => hne e.symm)).trans (Below.heap_alloc wr _ k hk)
  refine ⟨q, c, w2, h1, ⟨(h.below.alloc h.below.size _).grown h3 (by rw [hsz]; omega) (fun k hk => by have := (h.row.lt k hk).1; omega), ?_, ?_, ?_⟩, by have := h3.size; omega, hk⟩
  · exact (hk w.heap.size (by omega) (fun e => by have := (h.row.lt _ e).1; omega)).trans h.b2
  · exact (hk (w.heap.size + 1) (by omega) (fun e => by have := (h.row.lt _ e).1; omega)).trans h.b4
  · have e : (l ++ [x]).length = l.length + 1 := by simp
    rw [e]
    exact h2
theorem Fm.put6 {w wr : World} (hb : Below w.heap.size w wr) (h2 : wr.heap[w.heap.size]? = some zeroF) (h4 : wr.heap[w.heap.size + 1]? = some zeroF) (a b c d : Int) (h x : ByteArray) : Fm w a b c d h x ((((((wr.setCell ⟨w.heap.size + 1, 0, none⟩ (.int .i64 a)).setCell ⟨w.heap.size + 1, 1, none⟩ (.int .i64 b)).setCell ⟨w.heap.size + 1, 2, none⟩ (.int .i64 c)).setCell ⟨w.heap.size + 1, 3, none⟩ (.int .i64 d)).setCell ⟨w.heap.size + 1, 4, none⟩ (.string h)).setCell ⟨w.heap.size + 1, 5, none⟩ (.string x)) := by
  refine ⟨below6 hb (by omega) _ _ _ _ _ _, ?_, set6 h4 _ _ _ _ _ _⟩
  exact blk_set (blk_set (blk_set (blk_set (blk_set (blk_set h2 _ _ (by simp)) _ _ (by simp)) _ _ (by simp)) _ _ (by simp)) _ _ (by simp)) _ _ (by simp)
theorem Fm.keep6 {w wr : World} {a b c d : Int} {h x : ByteArray} (f : Fm w a b c d h x wr) (x0 x1 x2 x3 x4 x5 : Value) : ((((((wr.setCell ⟨w.heap.size, 0, none⟩ x0).setCell ⟨w.heap.size, 1, none⟩ x1).setCell ⟨w.heap.size, 2, none⟩ x2).setCell ⟨w.heap.size, 3, none⟩ x3).setCell ⟨w.heap.size, 4, none⟩ x4).setCell ⟨w.heap.size, 5, none⟩ x5).heap[w.heap.size + 1]? = some (.cells #[.int .i64 a, .int .i64 b, .int .i64 c, .int .i64 d, .string h, .string x] 24) :=
  blk_set (blk_set (blk_set (blk_set (blk_set (blk_set f.b4 _ _ (by simp)) _ _ (by simp)) _ _ (by simp)) _ _ (by simp)) _ _ (by simp)) _ _ (by simp)
theorem Fm.drew {w wr : World} {a b c d : Int} {h x : ByteArray} (f : Fm w a b c d h x wr) : Fm w a b c d h x wr.drew := f.next ⟨rfl, rfl, rfl, Nat.le_refl _, fun _ _ => rfl⟩
theorem first_byte (s : ByteArray) (h : 1 ≤ s.size) : s.data.toList[0]? = some s[0] := by
  rw [Array.getElem?_toList, Array.getElem?_eq_getElem (by exact h)]
  rfl
theorem slice_whole (s : ByteArray) (p : Nat) (h : p + 64 ≤ s.size) (wx : World) : (Instr.slice 9 (.string s) (some (.int .i64 (p : Int))) (some (.int .i64 ((p : Int) + 32))) none).run Tryd.prog wx = .ok (.string (s.extract p (p + 32))) wx := slice_is s p 32 (by omega) wx
theorem slice_text (s : ByteArray) (p : Nat) (h : p + 64 ≤ s.size) (wx : World) : (Instr.slice 9 (.string s) (some (.int .i64 ((p : Int) + 64))) none none).run Tryd.prog wx = .ok (.string (s.extract (p + 64) s.size)) wx := by
  rw [run_slice_string_l (P := Tryd.prog) wx 9 s Tryd.underlying9 .i64 ((p : Int) + 64) (by omega) (by omega)]
  congr 3
theorem slice_ahead (s : ByteArray) (p : Nat) (h : p + 64 ≤ s.size) (wx : World) : (Instr.slice 9 (.string s) none (some (.int .i64 ((p : Int) + 32))) none).run Tryd.prog wx = .ok (.string (s.extract 0 (p + 32))) wx := by
  rw [run_slice_string_h (P := Tryd.prog) wx 9 s Tryd.underlying9 .i64 ((p : Int) + 32) (by omega) (by omega)]
  congr 3
theorem slice_dig (s : ByteArray) (p : Nat) (h : p + 64 ≤ s.size) (wx : World) : (Instr.slice 9 (.string s) (some (.int .i64 ((p : Int) + 32))) (some (.int .i64 ((p : Int) + 64))) none).run Tryd.prog wx = .ok (.string (s.extract (p + 32) (p + 64))) wx := by
  have h1 := run_slice_string (P := Tryd.prog) wx 9 s .i64 .i64 ((p : Int) + 32) ((p : Int) + 64) Tryd.underlying9 (by omega) (by omega) (by omega)
  rw [h1]
  congr 3
attribute [local go_sem ↓] app_fold
set_option maxRecDepth 100000 in
set_option maxHeartbeats 4000000 in
theorem frameS_any (s : ByteArray) (w : World) (hs : s.size ≤ 20000) :
    Calls Tryd.prog 25 #[.string s] w (RdPost w s) := by
  have hs' : (s.size : Int) ≤ 20000 := by omega
  by_cases h0 : s.size < 1
  · have h0' : (s.size : Int) < 1 := by omega
    have hN := mkHid (show readF s = none by unfold readF; rw [if_pos (.inl h0)])
    have B1 := mkHid (allocs2 w zeroF zeroF)
    unfold zeroF at B1
    go_enter Tryd.func25, Tryd.ntmps25
    go_wp2
    refine bodyPost_ret (v := .tuple #[.agg #[.int .i64 0, .int .i64 0, .int .i64 0, .int .i64 0, .string ⟨#[]⟩, .string ⟨#[]⟩], .bool false]) ?_ rfl ?_
    rotate_left
    · exact rd_no hN.out B1.out
    · simp [results, Tryd.results25, go_sem]
  have h1 : 1 ≤ s.size := by omega
  have h1' : (1 : Int) ≤ (s.size : Int) := by omega
  have hb0 := first_byte s h1
  by_cases h7 : s[0].toNat = 70
  · have h8 : (((s[0].toNat : Nat) : Int) != 70) = false := by simp; omega
    have h9 : (((s[0].toNat : Nat) : Int) == 70) = true := by simp; omega
    have h10 : decide ((s.size : Int) < 1) = false := by simp; omega
    have HM0 : Hid (1 ≤ s.size ∧ s.data.toList[0]? = some 70) := mkHid ⟨h1, by rw [hb0]; congr 1; exact UInt8.toNat_inj.1 (by simpa using h7)⟩
    have R0 : Hid (Rs w [] (.slice (some ⟨w.heap.size + 2, 0, none⟩) 0 0) (((w.alloc zeroF).alloc zeroF).alloc (.cells #[] 2))) := mkHid ⟨allocs3 w _ _ _, blk_old (blk_old (blk_new w _ _ rfl) _) _, blk_old (blk_new _ _ _ (by simp)) _, by
      have h := World.ownsRow_made (base := w.heap.size + 2) (e := 2) (size := 1) ((w.alloc zeroF).alloc zeroF) #[] 0 (by simp) (by decide) rfl
      have e : ((w.alloc zeroF).alloc zeroF).heap.size = w.heap.size + 2 := by simp
      rw [e] at h
      exact h⟩
    have HGt := mkHid (fun (p : Nat) wx (hp : (p : Int) ≤ 9223372036854775807) => num.spec_any s p wx hs hp)
    clear hb0 h7
    go_enter Tryd.func25, Tryd.ntmps25
    go_wp2
    go_loopw [5, 6, 7] (fun v a i wr => ∃ (k p : Nat) (l : List Int) (q c : Nat), k ≤ 4 ∧ v = .slice (some ⟨q, 0, none⟩) l.length c ∧ i = .int .i64 k ∧ a = .int .i64 p ∧ p ≤ s.size ∧ l.length = k ∧ Hid (rdA s 4 1 [] = rdA s (4 - k) p l) ∧ Hid (Rs w l (.slice (some ⟨q, 0, none⟩) l.length c) wr))
      (fun _ _ i _ => 4 - (intOf i).toNat)
    case atStart => exact ⟨0, 1, [], w.heap.size + 2, 0, by omega, rfl, rfl, rfl, HM0.out.1, rfl, mkHid rfl, R0⟩
    case round =>
      clear R0
      obtain ⟨k, p, l, q, c, hk, rfl, rfl, rfl, hp, hlk, hl, hR⟩ := hrel
      have hpi : (p : Int) ≤ 20000 := by omega
      by_cases hlt : k < 4
      · have hki : (k : Int) < 4 := by omega
        cases hq : num.G s p with
        | error cc =>
          have hN := mkHid (show readF s = none by
            unfold readF
            rw [if_neg (fun h => h.elim (fun h => absurd HM0.out.1 (by omega)) (fun h => h HM0.out.2)), hl.out, show 4 - k = (4 - k - 1) + 1 by omega, rdA_err hq])
          have HRd1 := HGt.out p wr (by omega)
          rw [hq] at HRd1
          unfold num.out at HRd1
          have HRd1 := mkHid HRd1
          have hcc : cc ≠ 0 := G_code hq
          have hce : (cc == 0) = false := by simpa using hcc
          clear HGt hl hq
          go_wp2_with fail
          refine HRd1.out.mono ?_
          rintro e w2 ⟨rfl, hb⟩
          have R2 := mkHid ((hR.out.next hb).next (below_alloc1 w2 (.cells #[.int .i64 0, .int .i64 0, .int .i64 cc] 68)))
          have k0 := cel3 (blk_new w2 (.cells #[.int .i64 0, .int .i64 0, .int .i64 cc] 68) w2.heap.size rfl)
          obtain ⟨c0, c1, c2, c3, c4, c5⟩ := cel6 R2.out.b2
          obtain ⟨e0, e1, e2, e3, e4, e5⟩ := cel6 R2.out.b4
          have ef := unfrozen R2.out.b2
          clear hb HRd1
          go_wp2
          refine bodyPost_ret (v := .tuple #[.agg #[.int .i64 0, .int .i64 0, .int .i64 0, .int .i64 0, .string ⟨#[]⟩, .string ⟨#[]⟩], .bool false]) ?_ rfl ?_
          rotate_left
          · exact rd_no hN.out (below6 R2.out.below (Nat.le_refl _) _ _ _ _ _ _)
          · simp [results, Tryd.results25, go_sem, c0, c1, c2, c3, c4, c5]
        | ok o =>
          obtain ⟨z, q2⟩ := o
          obtain ⟨Q, rfl, hQ1, hQ2, _⟩ := G_nat hq
          have HRd1 := HGt.out p wr (by omega)
          rw [hq] at HRd1
          unfold num.out at HRd1
          have HRd1 := mkHid HRd1
          have N1 : Hid (rdA s 4 1 [] = rdA s (4 - (k + 1)) Q (l ++ [z])) := mkHid (by rw [hl.out, show 4 - k = (4 - (k + 1)) + 1 by omega, rdA_ok hq])
          clear HGt hl hq
          go_wp2_with fail
          refine HRd1.out.mono ?_
          rintro e w2 ⟨rfl, hb⟩
          have R2 := mkHid (hR.out.next hb)
          have hqlt := (R2.out.row.lt q rfl).2
          have R3 := mkHid (R2.out.next (below_alloc1 w2 (.cells #[.int .i64 z, .int .i64 Q, .int .i64 0] 68)))
          have hx0 := blk_new w2 (.cells #[.int .i64 z, .int .i64 Q, .int .i64 0] 68) w2.heap.size rfl
          obtain ⟨k0, k1, k2⟩ := cel3 hx0
          obtain ⟨q3, c3, w3, hrun, R4, hsz, hke⟩ := R3.out.app z (by omega)
          have hx3 := (hke w2.heap.size (by simp) (by simp [Value.ownBlock]; omega)).trans hx0
          obtain ⟨m0, m1, m2⟩ := cel3 hx3
          have e1 : (w2.alloc (.cells #[.int .i64 z, .int .i64 Q, .int .i64 0] 68)).heap.size = w2.heap.size + 1 := by simp
          rw [e1] at hrun
          have N2 : Hid (Rs w (l ++ [z]) (.slice (some ⟨q3, 0, none⟩) (l ++ [z]).length c3) w3) := mkHid (by
            have e : (l ++ [z]).length = l.length + 1 := by simp
            rw [e]
            exact R4)
          have hl1 : (l ++ [z]).length = l.length + 1 := by simp
          rw [hlk] at hrun
          clear hb HRd1 hR R2 R3 R4 hke hx0 hx3 hsz e1 hqlt hQ1
          go_wp2
          go_roundw
          case rel => exact ⟨k + 1, Q, l ++ [z], q3, c3, by omega, by rw [hl1, hlk], by go_num, rfl, hQ2, by rw [hl1, hlk], N1, N2⟩
          case measure => simp [intOf]; omega
      · obtain rfl : k = 4 := by omega
        clear hlt
        obtain ⟨a, b, c', d, rfl⟩ : ∃ a b c' d, l = [a, b, c', d] := by
          match l, hlk with
          | [a, b, c', d], _ => exact ⟨a, b, c', d, rfl⟩
        have hrd := mkHid (show rdA s 4 1 [] = some ([a, b, c', d], p) by rw [hl.out]; rfl)
        have hcl := cut_len s p hp
        have j0 : wr.cell? ⟨q, 0, none⟩ = some (.int .i64 a) := by simpa [Addr.add] using hR.out.row.cells rfl 0 (.int .i64 a) rfl
        have j1 : wr.cell? ⟨q, 1, none⟩ = some (.int .i64 b) := by simpa [Addr.add] using hR.out.row.cells rfl 1 (.int .i64 b) rfl
        have j2 : wr.cell? ⟨q, 2, none⟩ = some (.int .i64 c') := by simpa [Addr.add] using hR.out.row.cells rfl 2 (.int .i64 c') rfl
        have j3 : wr.cell? ⟨q, 3, none⟩ = some (.int .i64 d) := by simpa [Addr.add] using hR.out.row.cells rfl 3 (.int .i64 d) rfl
        clear hl HGt hlk
        by_cases h64 : s.size < p + 64
        · have hN := mkHid (show readF s = none by
            unfold readF
            rw [if_neg (fun h => h.elim (fun h => absurd HM0.out.1 (by omega)) (fun h => h HM0.out.2)), hrd.out]
            simp only
            rw [if_pos h64])
          have hr : (s.size : Int) < (p : Int) + 64 := by omega
          obtain ⟨c0, c1, c2, c3, c4, c5⟩ := cel6 hR.out.b2
          obtain ⟨e0, e1, e2, e3, e4, e5⟩ := cel6 hR.out.b4
          have ef := unfrozen hR.out.b2
          clear hrd h64 HM0 hcl j0 j1 j2 j3
          go_wp2
          refine bodyPost_ret (v := .tuple #[.agg #[.int .i64 0, .int .i64 0, .int .i64 0, .int .i64 0, .string ⟨#[]⟩, .string ⟨#[]⟩], .bool false]) ?_ rfl ?_
          rotate_left
          · exact rd_no hN.out (below6 hR.out.below (Nat.le_refl _) _ _ _ _ _ _)
          · simp [results, Tryd.results25, go_sem, c0, c1, c2, c3, c4, c5]
        · have hr : (p : Int) + 64 ≤ (s.size : Int) := by omega
          have TI := mkHid (text_iff HM0.out.2 hrd.out (by omega))
          have hRF := mkHid (show readF s = if frmB a b c' d (s.extract p (p + 32)) (s.extract (p + 64) s.size) = true ∧ digest (s.extract 0 (p + 32) ++ s.extract (p + 64) s.size) = s.extract (p + 32) (p + 64) then some (a, b, c', d, s.extract p (p + 32), s.extract (p + 64) s.size) else none by
            unfold readF
            rw [if_neg (fun h => h.elim (fun h => absurd HM0.out.1 (by omega)) (fun h => h HM0.out.2)), hrd.out]
            simp only
            rw [if_neg h64])
          have HFr := mkHid (fun wx => frmS_any a b c' d (s.extract p (p + 32)) (s.extract (p + 64) s.size) wx (by simp; omega) (by simp; omega))
          have HDg := mkHid (fun wx => two_any (s.extract 0 (p + 32)) (s.extract (p + 64) s.size) wx (by simp; omega))
          have HEnd : Hid (∀ w' bb, (bb = true ↔ (frmB a b c' d (s.extract p (p + 32)) (s.extract (p + 64) s.size) = true ∧ digest (s.extract 0 (p + 32) ++ s.extract (p + 64) s.size) = s.extract (p + 32) (p + 64))) → Below w.heap.size w w' → RdPost w s (.returned (.tuple #[.agg #[.int .i64 a, .int .i64 b, .int .i64 c', .int .i64 d, .string (s.extract p (p + 32)), .string (s.extract (p + 64) s.size)], .bool bb])) w') := mkHid (by
            intro w' bb hbb hb
            refine ⟨⟨bb, a, b, c', d, _, _, rfl, fun e => ?_, fun e => ?_⟩, hb⟩
            · rw [hRF.out, if_pos (hbb.1 e)]
            · rw [hRF.out, if_neg (fun h => by have := hbb.2 h; rw [e] at this; cases this)])
          have F5 := mkHid (Fm.put6 hR.out.below hR.out.b2 hR.out.b4 a b c' d (s.extract p (p + 32)) (s.extract (p + 64) s.size))
          obtain ⟨e0, e1, e2, e3, e4, e5⟩ := cel6 hR.out.b4
          have ef := unfrozen hR.out.b4
          have hw32 : IntKind.i64.wrap ((p : Int) + 32) = (p : Int) + 32 := by rw [IntKind.wrap_i64]; omega
          have hw64 : IntKind.i64.wrap ((p : Int) + 64) = (p : Int) + 64 := by rw [IntKind.wrap_i64]; omega
          clear hRF TI hrd h64 HM0 hcl
          have hs1 := slice_whole s p (by omega)
          have hs2 := slice_text s p (by omega)
          have hs3 := slice_ahead s p (by omega)
          have hs4 := slice_dig s p (by omega)
          have hqn : q ≠ w.heap.size + 1 := by have := (hR.out.row.lt q rfl).1; omega
          have hqm : w.heap.size + 1 ≠ q := fun e => hqn e.symm
          go_wp2_with fail
          go_region_held3 (fun w' => w'.cell? ⟨q, 0, none⟩ = some (.int .i64 a) ∧ w'.cell? ⟨q, 1, none⟩ = some (.int .i64 b) ∧ w'.cell? ⟨q, 2, none⟩ = some (.int .i64 c') ∧ w'.cell? ⟨q, 3, none⟩ = some (.int .i64 d)) (go_keep) (fail)
          obtain ⟨c0, c1, c2, c3, c4, c5⟩ := cel6 F5.out.b4
          clear j0 j1 j2 j3 hs1 hs2 e0 e1 e2 e3 e4 e5 ef hR
          generalize ((((((wr.setCell ⟨w.heap.size + 1, 0, none⟩ (.int .i64 a)).setCell ⟨w.heap.size + 1, 1, none⟩ (.int .i64 b)).setCell ⟨w.heap.size + 1, 2, none⟩ (.int .i64 c')).setCell ⟨w.heap.size + 1, 3, none⟩ (.int .i64 d)).setCell ⟨w.heap.size + 1, 4, none⟩ (.string (s.extract p (p + 32)))).setCell ⟨w.heap.size + 1, 5, none⟩ (.string (s.extract (p + 64) s.size))) = V at *
          have F6 := mkHid F5.out.drew
          obtain ⟨c0, c1, c2, c3, c4, c5⟩ := cel6 F6.out.b4
          clear F5
          cases hfr : frmB a b c' d (s.extract p (p + 32)) (s.extract (p + 64) s.size) with
          | false =>
            have HP := mkHid (fun w' (hb : Below w.heap.size w w') => HEnd.out w' false ⟨(fun h => by cases h), (fun h => by rw [hfr] at h; cases h.1)⟩ hb)
            rw [hfr] at HFr
            clear HEnd hfr HDg
            go_wp2_with fail
            refine wp_region_held_drew (S := fun w' => w'.cell? ⟨w.heap.size + 1, 0, none⟩ = some (.int .i64 a) ∧ w'.cell? ⟨w.heap.size + 1, 1, none⟩ = some (.int .i64 b) ∧ w'.cell? ⟨w.heap.size + 1, 2, none⟩ = some (.int .i64 c') ∧ w'.cell? ⟨w.heap.size + 1, 3, none⟩ = some (.int .i64 d) ∧ w'.cell? ⟨w.heap.size + 1, 4, none⟩ = some (.string (s.extract p (p + 32))) ∧ w'.cell? ⟨w.heap.size + 1, 5, none⟩ = some (.string (s.extract (p + 64) s.size))) (by kernel_rfl) (by exact ⟨c0, c1, c2, c3, c4, c5⟩) (fun hHeld => ?_)
            refine wpAnyH_take (i := 0) (oi := Oper.mk _ _ _ _ _ _) (v := ?_) rfl (by kernel_rfl) (by kernel_rfl) (by kernel_rfl) (fun _ _ _ h => h) (Or.inl ⟨by rfl, ?_⟩) (by assumption) ?_
            rotate_left
            · intro w hSw
              try dsimp only at hSw
              go_simp
              all_goals with_reducible rfl
            try simp only [Act.put, List.setIfInBounds_toArray, List.set_cons_zero, List.set_cons_succ]
            refine wpAnyH_take (i := 1) (oi := Oper.mk _ _ _ _ _ _) (v := ?_) rfl (by kernel_rfl) (by kernel_rfl) (by kernel_rfl) (fun _ _ _ h => h) (Or.inl ⟨by rfl, ?_⟩) (by assumption) ?_
            rotate_left
            · intro w hSw
              try dsimp only at hSw
              go_simp
              all_goals with_reducible rfl
            try simp only [Act.put, List.setIfInBounds_toArray, List.set_cons_zero, List.set_cons_succ]
            refine wpAnyH_ready (rs := [2]) (by kernel_rfl) (by simp) ?_
            refine AllReadyH.cons (o := Oper.mk _ _ _ _ _ _) rfl (fun K hK => ?_) AllReadyH.nil
            go_simp
            refine Calls.mono (HFr.out _) ?_
            rintro e w6 ⟨rfl, hb⟩
            have F7 := mkHid (F6.out.next (re hb rfl rfl rfl rfl))
            obtain ⟨d0, d1, d2, d3, d4, d5⟩ := cel6 F7.out.b4
            obtain ⟨r0, r1, r2, r3, r4, r5⟩ := cel6 F7.out.b2
            have r6 := unfrozen F7.out.b2
            clear hb
            show K _ _
            refine hK.out _ _ ⟨d0, d1, d2, d3, d4, d5⟩ (fun hHeld => ?_)
            clear hK K
            try simp only [Act.put, List.setIfInBounds_toArray, List.set_cons_zero, List.set_cons_succ]
            refine wpAnyH_take (i := 3) (oi := Oper.mk _ _ _ _ _ _) (v := ?_) rfl (by kernel_rfl) (by kernel_rfl) (by kernel_rfl) (fun _ _ _ h => h) (Or.inl ⟨by rfl, ?_⟩) (by assumption) ?_
            rotate_left
            · intro w hSw
              try dsimp only at hSw
              go_simp
              all_goals with_reducible rfl
            try simp only [Act.put, List.setIfInBounds_toArray, List.set_cons_zero, List.set_cons_succ]
            refine wpAnyH_take (i := 4) (oi := Oper.mk _ _ _ _ _ _) (v := undef) rfl (by kernel_rfl) (by kernel_rfl) (by kernel_rfl) (fun _ _ _ h => h) (Or.inr ⟨by rfl, rfl⟩) (by assumption) ?_
            try simp only [Act.put, List.setIfInBounds_toArray, List.set_cons_zero, List.set_cons_succ]
            refine wpAnyH_take (i := 5) (oi := Oper.mk _ _ _ _ _ _) (v := undef) rfl (by kernel_rfl) (by kernel_rfl) (by kernel_rfl) (fun _ _ _ h => h) (Or.inr ⟨by rfl, rfl⟩) (by assumption) ?_
            try simp only [Act.put, List.setIfInBounds_toArray, List.set_cons_zero, List.set_cons_succ]
            refine wpAnyH_take (i := 6) (oi := Oper.mk _ _ _ _ _ _) (v := undef) rfl (by kernel_rfl) (by kernel_rfl) (by kernel_rfl) (fun _ _ _ h => h) (Or.inr ⟨by rfl, rfl⟩) (by assumption) ?_
            try simp only [Act.put, List.setIfInBounds_toArray, List.set_cons_zero, List.set_cons_succ]
            refine wpAnyH_take (i := 7) (oi := Oper.mk _ _ _ _ _ _) (v := undef) rfl (by kernel_rfl) (by kernel_rfl) (by kernel_rfl) (fun _ _ _ h => h) (Or.inr ⟨by rfl, rfl⟩) (by assumption) ?_
            try simp only [Act.put, List.setIfInBounds_toArray, List.set_cons_zero, List.set_cons_succ]
            refine wpAnyH_take (i := 8) (oi := Oper.mk _ _ _ _ _ _) (v := undef) rfl (by kernel_rfl) (by kernel_rfl) (by kernel_rfl) (fun _ _ _ h => h) (Or.inr ⟨by rfl, rfl⟩) (by assumption) ?_
            try simp only [Act.put, List.setIfInBounds_toArray, List.set_cons_zero, List.set_cons_succ]
            refine wpAnyH_take (i := 9) (oi := Oper.mk _ _ _ _ _ _) (v := undef) rfl (by kernel_rfl) (by kernel_rfl) (by kernel_rfl) (fun _ _ _ h => h) (Or.inr ⟨by rfl, rfl⟩) (by assumption) ?_
            try simp only [Act.put, List.setIfInBounds_toArray, List.set_cons_zero, List.set_cons_succ]
            refine wpAnyH_take (i := 10) (oi := Oper.mk _ _ _ _ _ _) (v := undef) rfl (by kernel_rfl) (by kernel_rfl) (by kernel_rfl) (fun _ _ _ h => h) (Or.inr ⟨by rfl, rfl⟩) (by assumption) ?_
            try simp only [Act.put, List.setIfInBounds_toArray, List.set_cons_zero, List.set_cons_succ]
            refine wpAnyH_take (i := 11) (oi := Oper.mk _ _ _ _ _ _) (v := undef) rfl (by kernel_rfl) (by kernel_rfl) (by kernel_rfl) (fun _ _ _ h => h) (Or.inr ⟨by rfl, rfl⟩) (by assumption) ?_
            try simp only [Act.put, List.setIfInBounds_toArray, List.set_cons_zero, List.set_cons_succ]
            refine wpAnyH_take (i := 12) (oi := Oper.mk _ _ _ _ _ _) (v := undef) rfl (by kernel_rfl) (by kernel_rfl) (by kernel_rfl) (fun _ _ _ h => h) (Or.inr ⟨by rfl, rfl⟩) (by assumption) ?_
            try simp only [Act.put, List.setIfInBounds_toArray, List.set_cons_zero, List.set_cons_succ]
            refine wpAnyH_take (i := 13) (oi := Oper.mk _ _ _ _ _ _) (v := undef) rfl (by kernel_rfl) (by kernel_rfl) (by kernel_rfl) (fun _ _ _ h => h) (Or.inr ⟨by rfl, rfl⟩) (by assumption) ?_
            try simp only [Act.put, List.setIfInBounds_toArray, List.set_cons_zero, List.set_cons_succ]
            refine wpAnyH_take (i := 14) (oi := Oper.mk _ _ _ _ _ _) (v := undef) rfl (by kernel_rfl) (by kernel_rfl) (by kernel_rfl) (fun _ _ _ h => h) (Or.inr ⟨by rfl, rfl⟩) (by assumption) ?_
            try simp only [Act.put, List.setIfInBounds_toArray, List.set_cons_zero, List.set_cons_succ]
            refine wpAnyH_take (i := 15) (oi := Oper.mk _ _ _ _ _ _) (v := undef) rfl (by kernel_rfl) (by kernel_rfl) (by kernel_rfl) (fun _ _ _ h => h) (Or.inr ⟨by rfl, rfl⟩) (by assumption) ?_
            try simp only [Act.put, List.setIfInBounds_toArray, List.set_cons_zero, List.set_cons_succ]
            refine wpAnyH_take (i := 16) (oi := Oper.mk _ _ _ _ _ _) (v := undef) rfl (by kernel_rfl) (by kernel_rfl) (by kernel_rfl) (fun _ _ _ h => h) (Or.inr ⟨by rfl, rfl⟩) (by assumption) ?_
            try simp only [Act.put, List.setIfInBounds_toArray, List.set_cons_zero, List.set_cons_succ]
            refine wpAnyH_take (i := 17) (oi := Oper.mk _ _ _ _ _ _) (v := undef) rfl (by kernel_rfl) (by kernel_rfl) (by kernel_rfl) (fun _ _ _ h => h) (Or.inr ⟨by rfl, rfl⟩) (by assumption) ?_
            try simp only [Act.put, List.setIfInBounds_toArray, List.set_cons_zero, List.set_cons_succ]
            refine wpAnyH_take (i := 18) (oi := Oper.mk _ _ _ _ _ _) (v := ?_) rfl (by kernel_rfl) (by kernel_rfl) (by kernel_rfl) (fun _ _ _ h => h) (Or.inl ⟨by rfl, ?_⟩) (by assumption) ?_
            rotate_left
            · intro w hSw
              try dsimp only at hSw
              go_simp
              all_goals with_reducible rfl
            try simp only [Act.put, List.setIfInBounds_toArray, List.set_cons_zero, List.set_cons_succ]
            refine wpAnyH_ready (rs := [19]) (by kernel_rfl) (by simp) ?_
            refine AllReadyH.cons (o := Oper.mk _ _ _ _ _ _) rfl (fun K hK => ?_) AllReadyH.nil
            go_simp
            refine hK.out _ _ (by have h6 := F7.out.keep6 (.int .i64 a) (.int .i64 b) (.int .i64 c') (.int .i64 d) (.string (s.extract p (p + 32))) (.string (s.extract (p + 64) s.size)); exact cel6 h6) (fun hHeld => ?_)
            clear hK K
            try simp only [Act.put, List.setIfInBounds_toArray, List.set_cons_zero, List.set_cons_succ]
            refine wpAnyH_take (i := 20) (oi := Oper.mk _ _ _ _ _ _) (v := ?_) rfl (by kernel_rfl) (by kernel_rfl) (by kernel_rfl) (fun _ _ _ h => h) (Or.inl ⟨by rfl, ?_⟩) (by assumption) ?_
            rotate_left
            · intro w hSw
              try dsimp only at hSw
              go_simp
              all_goals with_reducible rfl
            try simp only [Act.put, List.setIfInBounds_toArray, List.set_cons_zero, List.set_cons_succ]
            refine wpAnyH_done (by kernel_rfl) ?_ _
            have HB := mkHid (below6 F7.out.below (Nat.le_refl _) (.int .i64 a) (.int .i64 b) (.int .i64 c') (.int .i64 d) (.string (s.extract p (p + 32))) (.string (s.extract (p + 64) s.size)))
            clear F6
            go_wp2
            refine bodyPost_ret (v := .tuple #[.agg #[.int .i64 a, .int .i64 b, .int .i64 c', .int .i64 d, .string (s.extract p (p + 32)), .string (s.extract (p + 64) s.size)], .bool false]) ?_ rfl ?_
            rotate_left
            · exact HP.out _ (by first | exact HB.out | exact HB.out.drew)
            · simp [results, Tryd.results25, go_sem, r0, r1, r2, r3, r4, r5]
          | true =>
            rw [hfr] at HFr
            by_cases hdg : digest (s.extract 0 (p + 32) ++ (s.extract (p + 64) s.size)) = s.extract (p + 32) (p + 64)
            · have HP := mkHid (fun w' (hb : Below w.heap.size w w') => HEnd.out w' true ⟨(fun _ => ⟨hfr, hdg⟩), (fun _ => rfl)⟩ hb)
              rw [hdg] at HDg
              have he : ((s.extract (p + 32) (p + 64)).toList == (s.extract (p + 32) (p + 64)).toList) = true := by simp
              clear HEnd hfr hdg
              go_wp2_with fail
              go_region_held3 (fun w' => w'.cell? ⟨w.heap.size + 1, 0, none⟩ = some (.int .i64 a) ∧ w'.cell? ⟨w.heap.size + 1, 1, none⟩ = some (.int .i64 b) ∧ w'.cell? ⟨w.heap.size + 1, 2, none⟩ = some (.int .i64 c') ∧ w'.cell? ⟨w.heap.size + 1, 3, none⟩ = some (.int .i64 d) ∧ w'.cell? ⟨w.heap.size + 1, 4, none⟩ = some (.string (s.extract p (p + 32))) ∧ w'.cell? ⟨w.heap.size + 1, 5, none⟩ = some (.string (s.extract (p + 64) s.size))) (go_keep)
                ((first
                  | (go_at_call 17; refine Calls.mono (HFr.out _) ?_; rintro e w6 ⟨rfl, hb⟩; have F7 := mkHid (F6.out.next (re hb rfl rfl rfl rfl)); obtain ⟨d0, d1, d2, d3, d4, d5⟩ := cel6 F7.out.b4; clear hb)
                  | (go_at_call 19; refine Calls.mono (HDg.out _) ?_; rintro e w7 ⟨rfl, hb⟩; have F8 := mkHid (F7.out.next (re hb rfl rfl rfl rfl)); obtain ⟨g0, g1, g2, g3, g4, g5⟩ := cel6 F8.out.b4; obtain ⟨r0, r1, r2, r3, r4, r5⟩ := cel6 F8.out.b2; have r6 := unfrozen F8.out.b2; clear hb)))
              have HB := mkHid (below6 F8.out.below (Nat.le_refl _) (.int .i64 a) (.int .i64 b) (.int .i64 c') (.int .i64 d) (.string (s.extract p (p + 32))) (.string (s.extract (p + 64) s.size)))
              clear F6 F7
              go_wp2
              refine bodyPost_ret (v := .tuple #[.agg #[.int .i64 a, .int .i64 b, .int .i64 c', .int .i64 d, .string (s.extract p (p + 32)), .string (s.extract (p + 64) s.size)], .bool true]) ?_ rfl ?_
              rotate_left
              · exact HP.out _ (by first | exact HB.out | exact HB.out.drew)
              · simp [results, Tryd.results25, go_sem, r0, r1, r2, r3, r4, r5]
            · have HP := mkHid (fun w' (hb : Below w.heap.size w w') => HEnd.out w' false ⟨(fun h => by cases h), (fun h => absurd h.2 hdg)⟩ hb)
              have he := strs.bytes_ne hdg
              clear HEnd hfr
              generalize digest (s.extract 0 (p + 32) ++ (s.extract (p + 64) s.size)) = dg at *
              clear hdg
              go_wp2_with fail
              go_region_held3 (fun w' => w'.cell? ⟨w.heap.size + 1, 0, none⟩ = some (.int .i64 a) ∧ w'.cell? ⟨w.heap.size + 1, 1, none⟩ = some (.int .i64 b) ∧ w'.cell? ⟨w.heap.size + 1, 2, none⟩ = some (.int .i64 c') ∧ w'.cell? ⟨w.heap.size + 1, 3, none⟩ = some (.int .i64 d) ∧ w'.cell? ⟨w.heap.size + 1, 4, none⟩ = some (.string (s.extract p (p + 32))) ∧ w'.cell? ⟨w.heap.size + 1, 5, none⟩ = some (.string (s.extract (p + 64) s.size))) (go_keep)
                ((first
                  | (go_at_call 17; refine Calls.mono (HFr.out _) ?_; rintro e w6 ⟨rfl, hb⟩; have F7 := mkHid (F6.out.next (re hb rfl rfl rfl rfl)); obtain ⟨d0, d1, d2, d3, d4, d5⟩ := cel6 F7.out.b4; clear hb)
                  | (go_at_call 19; refine Calls.mono (HDg.out _) ?_; rintro e w7 ⟨rfl, hb⟩; have F8 := mkHid (F7.out.next (re hb rfl rfl rfl rfl)); obtain ⟨g0, g1, g2, g3, g4, g5⟩ := cel6 F8.out.b4; obtain ⟨r0, r1, r2, r3, r4, r5⟩ := cel6 F8.out.b2; have r6 := unfrozen F8.out.b2; clear hb)))
              have HB := mkHid (below6 F8.out.below (Nat.le_refl _) (.int .i64 a) (.int .i64 b) (.int .i64 c') (.int .i64 d) (.string (s.extract p (p + 32))) (.string (s.extract (p + 64) s.size)))
              clear F6 F7
              go_wp2
              refine bodyPost_ret (v := .tuple #[.agg #[.int .i64 a, .int .i64 b, .int .i64 c', .int .i64 d, .string (s.extract p (p + 32)), .string (s.extract (p + 64) s.size)], .bool false]) ?_ rfl ?_
              rotate_left
              · exact HP.out _ (by first | exact HB.out | exact HB.out.drew)
              · simp [results, Tryd.results25, go_sem, r0, r1, r2, r3, r4, r5]
  · have hN := mkHid (show readF s = none by
      unfold readF
      rw [if_pos (.inr (by rw [hb0]; intro e; apply h7; rw [Option.some.inj e]; rfl))])
    have h7' : ¬ ((s[0].toNat : Nat) : Int) = 70 := by omega
    have h8 : (((s[0].toNat : Nat) : Int) != 70) = true := by simp; omega
    have h9 : (((s[0].toNat : Nat) : Int) == 70) = false := by simp; omega
    have h10 : decide ((s.size : Int) < 1) = false := by simp; omega
    have B1 := mkHid (allocs2 w zeroF zeroF)
    unfold zeroF at B1
    clear hb0 h7
    go_enter Tryd.func25, Tryd.ntmps25
    go_wp2
    refine bodyPost_ret (v := .tuple #[.agg #[.int .i64 0, .int .i64 0, .int .i64 0, .int .i64 0, .string ⟨#[]⟩, .string ⟨#[]⟩], .bool false]) ?_ rfl ?_
    rotate_left
    · exact rd_no hN.out B1.out
    · simp [results, Tryd.results25, go_sem]
end Go.Proofs.YtjkbldmadcgddaaDoor.frm
namespace Go.Proofs.YtjkbldmadcgddaaDoor.frm
open Go.RowKit Go.Joins
open Go.Proofs.YtjkbldmadcgddaaDoor.base Go.Proofs.YtjkbldmadcgddaaDoor.blk Go.Proofs.YtjkbldmadcgddaaDoor.aid
open Go.Proofs.YtjkbldmadcgddaaDoor.sha (digest GV)
set_option linter.unusedVariables false

/-- what FrameRead tells -/
def outF (s : ByteArray) : Value :=
  if 20000 < s.size then .agg #[.int .i64 0, .int .i64 0, .int .i64 0, .int .i64 0, .string ⟨#[]⟩, .string ⟨#[]⟩, .int .i64 2] else match readF s with | some (k, m, i, z, h, x) => .agg #[.int .i64 k, .int .i64 m, .int .i64 i, .int .i64 z, .string h, .string x, .int .i64 0] | none => .agg #[.int .i64 0, .int .i64 0, .int .i64 0, .int .i64 0, .string ⟨#[]⟩, .string ⟨#[]⟩, .int .i64 3]
theorem cel7 {w : World} {g : Nat} {a b c d e f i : Value} {t : TypeId} {z : Nat × Nat} (h : w.heap[g]? = some (.cells #[a, b, c, d, e, f, i] t z)) : w.cell? ⟨g, 0, none⟩ = some a ∧ w.cell? ⟨g, 1, none⟩ = some b ∧ w.cell? ⟨g, 2, none⟩ = some c ∧ w.cell? ⟨g, 3, none⟩ = some d ∧ w.cell? ⟨g, 4, none⟩ = some e ∧ w.cell? ⟨g, 5, none⟩ = some f ∧ w.cell? ⟨g, 6, none⟩ = some i := by
  simp [World.cell?, h]
theorem below7 {w w1 : World} {g : Nat} (hb : Below w.heap.size w w1) (hg : w.heap.size ≤ g) (x0 x1 x2 x3 x4 x5 x6 : Value) : Below w.heap.size w (((((((w1.setCell ⟨g, 0, none⟩ x0).setCell ⟨g, 1, none⟩ x1).setCell ⟨g, 2, none⟩ x2).setCell ⟨g, 3, none⟩ x3).setCell ⟨g, 4, none⟩ x4).setCell ⟨g, 5, none⟩ x5).setCell ⟨g, 6, none⟩ x6) :=
  (below6 hb hg x0 x1 x2 x3 x4 x5).setCell (p := ⟨g, 6, none⟩) hg x6
set_option maxRecDepth 100000 in
set_option maxHeartbeats 4000000 in
theorem readS_any (s : ByteArray) (w : World) (hs : s.size ≤ 1048576) :
    Calls Tryd.prog 11 #[.string s] w fun e w' => e = .returned (outF s) ∧ Below w.heap.size w w' := by
  have hs' : (s.size : Int) ≤ 1048576 := by omega
  have B1 := mkHid (below_alloc1 w (.cells #[.int .i64 0, .int .i64 0, .int .i64 0, .int .i64 0, .string ⟨#[]⟩, .string ⟨#[]⟩, .int .i64 0] 29))
  have b1 := mkHid (blk_new w (.cells #[.int .i64 0, .int .i64 0, .int .i64 0, .int .i64 0, .string ⟨#[]⟩, .string ⟨#[]⟩, .int .i64 0] 29) w.heap.size rfl)
  by_cases hb : 20000 < s.size
  · have hb' : 20000 < (s.size : Int) := by omega
    have E := mkHid (show outF s = .agg #[.int .i64 0, .int .i64 0, .int .i64 0, .int .i64 0, .string ⟨#[]⟩, .string ⟨#[]⟩, .int .i64 2] by unfold outF; rw [if_pos hb])
    have B2 := mkHid (below_alloc1 w (.cells #[.int .i64 0, .int .i64 0, .int .i64 0, .int .i64 0, .string ⟨#[]⟩, .string ⟨#[]⟩, .int .i64 2] 29))
    clear b1 B1
    go_enter Tryd.func11, Tryd.ntmps11
    go_wp2
    refine bodyPost_ret (v := .agg #[.int .i64 0, .int .i64 0, .int .i64 0, .int .i64 0, .string ⟨#[]⟩, .string ⟨#[]⟩, .int .i64 2]) ?_ rfl ?_
    rotate_left
    · exact ⟨aid.ret_eq E.out.symm, B2.out⟩
    · simp [results, Tryd.results11, go_sem]
  · have hb' : (s.size : Int) ≤ 20000 := by omega
    have HI := mkHid (fun wx (q : Below w.heap.size w wx) => frameS_any s wx (by omega))
    unfold RdPost at HI
    have hE := mkHid (show outF s = match readF s with | some (k, m, i, z, h, x) => .agg #[.int .i64 k, .int .i64 m, .int .i64 i, .int .i64 z, .string h, .string x, .int .i64 0] | none => .agg #[.int .i64 0, .int .i64 0, .int .i64 0, .int .i64 0, .string ⟨#[]⟩, .string ⟨#[]⟩, .int .i64 3] by unfold outF; rw [if_neg hb])
    generalize hV : w.alloc (.cells #[.int .i64 0, .int .i64 0, .int .i64 0, .int .i64 0, .string ⟨#[]⟩, .string ⟨#[]⟩, .int .i64 0] 29) = V at *
    go_enter Tryd.func11, Tryd.ntmps11
    go_wp2_with fail
    refine (HI.out _ B1.out).mono ?_
    rintro e w1 ⟨⟨bb, k, m, i, z, h, x, rfl, h1, h2⟩, hb1⟩
    have B2 := mkHid (B1.out.trans (hb1.mono B1.out.size))
    have b2 := mkHid (blk_below b1.out hb1)
    have B3 := mkHid (B2.out.alloc B2.out.size (.cells #[.int .i64 k, .int .i64 m, .int .i64 i, .int .i64 z, .string h, .string x] 24))
    have b3 := mkHid (blk_old b2.out (.cells #[.int .i64 k, .int .i64 m, .int .i64 i, .int .i64 z, .string h, .string x] 24))
    obtain ⟨c0, c1, c2, c3, c4, c5⟩ := cel6 (blk_new w1 (.cells #[.int .i64 k, .int .i64 m, .int .i64 i, .int .i64 z, .string h, .string x] 24) w1.heap.size rfl)
    obtain ⟨d0, d1, d2, d3, d4, d5, d6⟩ := cel7 b3.out
    have df := unfrozen b3.out
    have hne : w.heap.size ≠ w1.heap.size := by have := (Array.getElem?_eq_some_iff.1 b2.out).1; omega
    cases bb with
    | false =>
      have E := mkHid (show outF s = .agg #[.int .i64 0, .int .i64 0, .int .i64 0, .int .i64 0, .string ⟨#[]⟩, .string ⟨#[]⟩, .int .i64 3] by rw [hE.out, h2 rfl])
      have HB := mkHid (below7 B3.out (Nat.le_refl _) (.int .i64 0) (.int .i64 0) (.int .i64 0) (.int .i64 0) (.string ⟨#[]⟩) (.string ⟨#[]⟩) (.int .i64 3))
      clear h1 h2 hE HI hb1 b1 b2 B1 B2 B3 b3 hV
      go_wp2
      refine bodyPost_ret (v := .agg #[.int .i64 0, .int .i64 0, .int .i64 0, .int .i64 0, .string ⟨#[]⟩, .string ⟨#[]⟩, .int .i64 3]) ?_ rfl ?_
      rotate_left
      · exact ⟨aid.ret_eq E.out.symm, HB.out⟩
      · simp [results, Tryd.results11, go_sem, d0, d1, d2, d3, d4, d5, d6]
    | true =>
      have E := mkHid (show outF s = .agg #[.int .i64 k, .int .i64 m, .int .i64 i, .int .i64 z, .string h, .string x, .int .i64 0] by rw [hE.out, h1 rfl])
      have HB := mkHid (below7 B3.out (Nat.le_refl _) (.int .i64 k) (.int .i64 m) (.int .i64 i) (.int .i64 z) (.string h) (.string x) (.int .i64 0))
      clear h1 h2 hE HI hb1 b1 b2 B1 B2 B3 b3 hV
      go_wp2
      refine bodyPost_ret (v := .agg #[.int .i64 k, .int .i64 m, .int .i64 i, .int .i64 z, .string h, .string x, .int .i64 0]) ?_ rfl ?_
      rotate_left
      · exact ⟨aid.ret_eq E.out.symm, HB.out⟩
      · simp [results, Tryd.results11, go_sem, d0, d1, d2, d3, d4, d5, d6]
set_option maxRecDepth 100000 in
set_option maxHeartbeats 4000000 in
theorem readI2_any (s : ByteArray) (w : World) (hs : s.size ≤ 1048576) (HD : himpl.IDigest) (hG : GV w) :
    Calls Tryd.prog 9 #[.string s] w fun e w' => e = .returned (outF s) ∧ Below w.heap.size w w' := by
  have hs' : (s.size : Int) ≤ 1048576 := by omega
  have B1 := mkHid (below_alloc1 w (.cells #[.int .i64 0, .int .i64 0, .int .i64 0, .int .i64 0, .string ⟨#[]⟩, .string ⟨#[]⟩, .int .i64 0] 29))
  have b1 := mkHid (blk_new w (.cells #[.int .i64 0, .int .i64 0, .int .i64 0, .int .i64 0, .string ⟨#[]⟩, .string ⟨#[]⟩, .int .i64 0] 29) w.heap.size rfl)
  by_cases hb : 20000 < s.size
  · have hb' : 20000 < (s.size : Int) := by omega
    have E := mkHid (show outF s = .agg #[.int .i64 0, .int .i64 0, .int .i64 0, .int .i64 0, .string ⟨#[]⟩, .string ⟨#[]⟩, .int .i64 2] by unfold outF; rw [if_pos hb])
    have B2 := mkHid (below_alloc1 w (.cells #[.int .i64 0, .int .i64 0, .int .i64 0, .int .i64 0, .string ⟨#[]⟩, .string ⟨#[]⟩, .int .i64 2] 29))
    clear b1 B1
    go_enter Tryd.func9, Tryd.ntmps9
    go_wp2
    refine bodyPost_ret (v := .agg #[.int .i64 0, .int .i64 0, .int .i64 0, .int .i64 0, .string ⟨#[]⟩, .string ⟨#[]⟩, .int .i64 2]) ?_ rfl ?_
    rotate_left
    · exact ⟨aid.ret_eq E.out.symm, B2.out⟩
    · simp [results, Tryd.results9, go_sem]
  · have hb' : (s.size : Int) ≤ 20000 := by omega
    have HI := mkHid (fun wx (q : Below w.heap.size w wx) => readI_any s wx (by omega) HD (hG.below q hG.lt))
    unfold RdPost at HI
    have hE := mkHid (show outF s = match readF s with | some (k, m, i, z, h, x) => .agg #[.int .i64 k, .int .i64 m, .int .i64 i, .int .i64 z, .string h, .string x, .int .i64 0] | none => .agg #[.int .i64 0, .int .i64 0, .int .i64 0, .int .i64 0, .string ⟨#[]⟩, .string ⟨#[]⟩, .int .i64 3] by unfold outF; rw [if_neg hb])
    generalize hV : w.alloc (.cells #[.int .i64 0, .int .i64 0, .int .i64 0, .int .i64 0, .string ⟨#[]⟩, .string ⟨#[]⟩, .int .i64 0] 29) = V at *
    go_enter Tryd.func9, Tryd.ntmps9
    go_wp2_with fail
    refine (HI.out _ B1.out).mono ?_
    rintro e w1 ⟨⟨bb, k, m, i, z, h, x, rfl, h1, h2⟩, hb1⟩
    have B2 := mkHid (B1.out.trans (hb1.mono B1.out.size))
    have b2 := mkHid (blk_below b1.out hb1)
    have B3 := mkHid (B2.out.alloc B2.out.size (.cells #[.int .i64 k, .int .i64 m, .int .i64 i, .int .i64 z, .string h, .string x] 24))
    have b3 := mkHid (blk_old b2.out (.cells #[.int .i64 k, .int .i64 m, .int .i64 i, .int .i64 z, .string h, .string x] 24))
    obtain ⟨c0, c1, c2, c3, c4, c5⟩ := cel6 (blk_new w1 (.cells #[.int .i64 k, .int .i64 m, .int .i64 i, .int .i64 z, .string h, .string x] 24) w1.heap.size rfl)
    obtain ⟨d0, d1, d2, d3, d4, d5, d6⟩ := cel7 b3.out
    have df := unfrozen b3.out
    have hne : w.heap.size ≠ w1.heap.size := by have := (Array.getElem?_eq_some_iff.1 b2.out).1; omega
    cases bb with
    | false =>
      have E := mkHid (show outF s = .agg #[.int .i64 0, .int .i64 0, .int .i64 0, .int .i64 0, .string ⟨#[]⟩, .string ⟨#[]⟩, .int .i64 3] by rw [hE.out, h2 rfl])
      have HB := mkHid (below7 B3.out (Nat.le_refl _) (.int .i64 0) (.int .i64 0) (.int .i64 0) (.int .i64 0) (.string ⟨#[]⟩) (.string ⟨#[]⟩) (.int .i64 3))
      clear h1 h2 hE HI hb1 b1 b2 B1 B2 B3 b3 hV
      go_wp2
      refine bodyPost_ret (v := .agg #[.int .i64 0, .int .i64 0, .int .i64 0, .int .i64 0, .string ⟨#[]⟩, .string ⟨#[]⟩, .int .i64 3]) ?_ rfl ?_
      rotate_left
      · exact ⟨aid.ret_eq E.out.symm, HB.out⟩
      · simp [results, Tryd.results9, go_sem, d0, d1, d2, d3, d4, d5, d6]
    | true =>
      have E := mkHid (show outF s = .agg #[.int .i64 k, .int .i64 m, .int .i64 i, .int .i64 z, .string h, .string x, .int .i64 0] by rw [hE.out, h1 rfl])
      have HB := mkHid (below7 B3.out (Nat.le_refl _) (.int .i64 k) (.int .i64 m) (.int .i64 i) (.int .i64 z) (.string h) (.string x) (.int .i64 0))
      clear h1 h2 hE HI hb1 b1 b2 B1 B2 B3 b3 hV
      go_wp2
      refine bodyPost_ret (v := .agg #[.int .i64 k, .int .i64 m, .int .i64 i, .int .i64 z, .string h, .string x, .int .i64 0]) ?_ rfl ?_
      rotate_left
      · exact ⟨aid.ret_eq E.out.symm, HB.out⟩
      · simp [results, Tryd.results9, go_sem, d0, d1, d2, d3, d4, d5, d6]
end Go.Proofs.YtjkbldmadcgddaaDoor.frm
